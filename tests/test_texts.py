"""Part 11: texts of yards."""

import unittest

import brute
from slantpanes.errors import BadText, NothingToUndo
from slantpanes.yards import Yard

TEXT = """yard
heap a
stripe 2 1 0 0 3
heap ab
stripe 2 1 0 0 -3
stripe 2 1 0 1 4
stripe 10 1 0 0 4
heap b
stripe 4 1 1 2
heap cube
stripe 2 1 1 0 1 5
alike a a
return a 2 -7
held a 0,1 1,0
never above a 3
mean a 3 2
mean a 6 4
return b -4
held cube 1,-1,2 1,1,0"""
HEADS = {"heap": 1, "stripe": 4}


class Texts(unittest.TestCase):
    def assert_line(self, text, line):
        with self.assertRaises(BadText) as caught:
            Yard.read(text)
        self.assertEqual(caught.exception.line, line, text)

    def test_a_text_of_all_kinds(self):
        yard = Yard.read(TEXT)
        self.assertEqual(str(yard), TEXT)
        self.assertEqual(yard.names(), ("a", "ab", "b", "cube"))
        self.assertEqual(yard.heap("ab"), (((2, (1, 0), 0), -3), ((2, (1, 0), 1), 4), ((10, (1, 0), 0), 4)))
        self.assertEqual(yard.promises(), (
            ("alike", "a", "a"), ("return", "a", (2, -7)), ("held", "a", ((0, 1), (1, 0))), ("never above", "a", 3),
            ("mean", "a", (3, 2)), ("mean", "a", (6, 4)), ("return", "b", (-4,)), ("held", "cube", ((1, -1, 2), (1, 1, 0)))))
        self.assertEqual(yard.deals(), ())
        with self.assertRaises(NothingToUndo):
            yard.undo()
        self.assertEqual(Yard.read("yard"), Yard())

    def test_no_strings(self):
        for wrong in brute.NOTHING_OF_ALL + [5, ("yard",), ["yard"]]:
            if not isinstance(wrong, str):
                self.assert_line(wrong, 0)

    def test_the_first_line(self):
        for wrong in ("", "\n", "Yard", "yard ", " yard", "heap a\nstripe 2 1 0 0 3", "\nyard", "x" * 2000, "yards\nheap a"):
            self.assert_line(wrong, 1)

    def test_each_line_spoiled(self):
        lines = TEXT.split("\n")
        for at, line in enumerate(lines):
            for wrong in ("", " ", line + " ", " " + line, line.replace(" ", "  ", 1), line.upper(), line + " 1", line + "\n",
                          line + "x", line.replace(" ", ", "), "yard", "x", "heap", "heap a", "stripe", "stripe 2 1 0 0 3",
                          line.replace(" ", "\t")):
                if wrong == line or at == 0:
                    continue
                text = "\n".join(lines[:at] + [wrong] + lines[at + 1:])
                # Lines that may stand there, or that show only later that they cannot, have tests of their own.
                if wrong in ("heap a", "stripe 2 1 0 0 3", line + " 1") or wrong == line + "x" and line.startswith("heap"):
                    continue
                self.assert_line(text, at + 1 if wrong != line + "\n" else at + 2)

    def test_lines_left_out_repeated_or_exchanged(self):
        lines = TEXT.split("\n")
        for at in range(1, len(lines)):
            self.assert_line("\n".join(lines[:at] + [lines[at]] + lines[at:]), at + 2)
            if lines[at].split(" ")[0] not in HEADS:
                self.assertEqual(brute.raised(Yard.read, "\n".join(lines[:at] + lines[at + 1:])), None)
        self.assert_line("\n".join(lines[:1] + lines[2:]), 2)
        self.assert_line("\n".join(lines[:2] + lines[3:]), 3)
        self.assert_line("\n".join(lines[:1] + lines[3:5] + lines[1:3]), 4)
        self.assert_line("\n".join(lines[:4] + [lines[5], lines[4]] + lines[6:]), 6)
        self.assert_line("\n".join(lines[:4] + [lines[6], lines[5]] + lines[7:]), 6)
        self.assert_line("\n".join(lines[:1] + lines[3:7] + lines[1:3] + lines[7:]), 6)

    def test_heaps_without_stripes(self):
        self.assert_line("yard\nheap a", 3)
        self.assert_line("yard\nheap a\n", 3)
        self.assert_line("yard\nheap a\nheap b\nstripe 2 1 0 0 3", 3)
        self.assert_line("yard\nheap a\nmean a 0 1", 3)
        self.assert_line("yard\nheap a\nstripe 2 1 0 0 3\nheap b", 5)
        self.assert_line("yard\nheap a\nstripe 2 1 0 0 3\n", 4)

    def test_names(self):
        for wrong in ("A", "aB", "abcdefghi", "a b", "", "a1", "-", "a,b"):
            self.assert_line(f"yard\nheap {wrong}\nstripe 2 1 0 0 3", 2)
        for first, second in (("a", "a"), ("b", "a"), ("ab", "a"), ("abcdefgh", "abcdefg")):
            self.assert_line(f"yard\nheap {first}\nstripe 2 1 0 0 3\nheap {second}\nstripe 2 1 0 0 3", 4)
        self.assertEqual(Yard.read("yard\nheap abcdefgh\nstripe 2 1 0 0 3").names(), ("abcdefgh",))

    def test_stripes(self):
        for wrong in ("2 1 0 0 0", "2 1 0 2 1", "2 2 0 0 1", "2 0 0 0 1", "31 1 0 0 1", "2 1 0 0 +1", "2 1 0 0 01", "2 1 0 0 -0",
                      "02 1 0 0 1", "2 1 0 0 1 ", "2  1 0 0 1", "2 1 0 -1 1", "2 1 0 0 1.0", "2 1 0 0 1_0", "2 1 0 0 a", "2", "",
                      "2 1", "2 1 0", "1 0 1", "2 1 0 0 0 0 1 1", "2 1,0 0 1", "0 0 0 0 1", "2 1 0 0 --1", "2 1 0 0 1-", "2 1 0 0 -"):
            self.assert_line(f"yard\nheap a\nstripe {wrong}", 3)
            self.assert_line(f"yard\nheap a\nstripe 1 0 0 0 1\nstripe {wrong}\nmean b 1 2", 4)
        for wrong in ("2 1 0 0 3", "2 1 0 0 4", "1 0 0 0 5", "2 0 1 0 7", "4 1 1 1", "4 1 1 1 1 1"):
            self.assert_line(f"yard\nheap a\nstripe 2 1 0 0 3\nstripe {wrong}", 4)
        many = "\n".join(f"stripe 29 1 0 {r} 1" for r in range(25))
        self.assert_line("yard\nheap a\n" + many, 27)
        self.assertEqual(len(Yard.read("yard\nheap a\n" + many.rpartition("\n")[0]).heap("a")), 24)

    def test_promises(self):
        head = "yard\nheap a\nstripe 2 1 0 0 3\nheap w\nstripe 4 1 1 2\n"
        for wrong in ("alike a", "alike a b", "alike a w a", "alike b a", "alike", "return a", "return a 2", "return a 2 0 0",
                      "return b 2 0", "return w 2 0", "return a 2 x", "return a 2,0", "return a +2 0", "return a 02 0", "held a",
                      "held a 1", "held a 1,0 0,1", "held a 1,0 1,0", "held a 2,0", "held a 1,0,0", "held w 1", "held w 1,0",
                      "held a (1,0)", "held a 1,", "held a 1,00", "held a 1, 0", "held b 1,0", "held", "never above a",
                      "never above a -1", "never above a 3 3", "never above b 3", "never a 3", "never above", "never", "above a 3",
                      "never_above a 3", "ever above a 3", "never below a 3", "never above a x", "never  above a 3", "mean a 3", "mean a 3 0", "mean a 3 -2",
                      "mean a 3 2 1", "mean b 3 2", "mean a 3/2", "mean a 3 2.0", "mean", "mean a -0 1", "means a 3 2",
                      "held a 0,1 0,1 1,0", "held a 1,0 1,1 1,2 1,3 1,4 1,5 1,6"):
            self.assert_line(head + wrong, 6)
            self.assert_line(head + "mean a 3 2\n" + wrong + "\nmean a 3 2", 7)
        self.assert_line(head + "mean a 3 2\nalike a a\nmean a 3 2", 8)
        self.assert_line(head + "mean a 3 2\nheap z\nstripe 2 1 0 0 3", 7)
        self.assert_line(head + "mean a 3 2\nstripe 2 1 0 0 3", 7)

    def test_the_first_promise_that_is_not_kept(self):
        head = "yard\nheap a\nstripe 2 1 0 0 3\nheap w\nstripe 4 1 1 2\n"
        for wrong in ("alike a w", "return a 1 0", "held a 0,1", "never above a 2", "mean a 1 2"):
            self.assert_line(head + wrong, 6)
            self.assert_line(head + "mean a 3 2\n" + wrong + "\nnever above a 1", 7)
            # A line that cannot stand is told before a promise that is not kept.
            self.assert_line(head + wrong + "\nmean a 3 0", 7)
            self.assert_line(head + wrong + "\n" + wrong, 7)

    def test_great_numbers(self):
        m, c = 210 ** 17, 13
        text = f"yard\nheap a\nstripe {m} {c} {m - 1} 0 {-10 ** 39}\nreturn a {m * 10 ** 19} {-m}\nheld a 1,{m - 1} {c},{m - 1}"
        self.assertEqual(str(Yard.read(text)), text)
        figures = "9" * 1900
        self.assertEqual(Yard.read("yard\nheap a\nstripe 1 0 0 1\nnever above a " + figures).promises()[0][2], int(figures))
        self.assert_line("yard\nheap a\nstripe 1 0 0 1\nnever above a 0" + figures, 4)
        # More figures than Python takes, and figures that it does not write.
        self.assert_line("yard\nheap a\nstripe 1 0 0 1\nnever above a " + "9" * 5000, 4)
        self.assert_line("yard\nheap a\nstripe 1 0 0 1\nnever above a \u0663", 4)


if __name__ == "__main__":
    unittest.main()
