"""Rule L7 of LANGUAGE.md over the files of the package: where a star stands."""

import ast
import pathlib
import unittest

import slantpanes


def stars_out_of_place(text):
    """The rows of the stars that stand in an index or in a set literal."""
    rows = set()
    for node in ast.walk(ast.parse(text)):
        if isinstance(node, ast.Subscript):
            rows.update(star.lineno for star in ast.walk(node.slice) if isinstance(star, ast.Starred))
        if isinstance(node, ast.Set):
            rows.update(item.lineno for item in node.elts if isinstance(item, ast.Starred))
    return sorted(rows)


class StarTests(unittest.TestCase):
    def test_files_of_the_package(self):
        files = sorted(pathlib.Path(slantpanes.__file__).parent.glob("**/*.py"))
        self.assertGreater(len(files), 20)
        for file in files:
            self.assertEqual(stars_out_of_place(file.read_text("utf-8")), [], file.name)

    def test_stars_that_are_told(self):
        for text in ("told[(*xs, 1)]", "told[[*xs][0]]", "told[*xs]", "told[len([*xs]):]", "told[(*xs, 1)] = 2",
                     "told[0][(1, *xs)]", "{*xs}", "{1, *xs}"):
            self.assertEqual(stars_out_of_place(text), [1], text)

    def test_stars_that_are_right(self):
        for text in ("[*xs, 1]", "(*xs, *ys)", "[*told[1:], told[0]]", "first, *rest = told", "zip(*told)", "told[xs[1]]"):
            self.assertEqual(stars_out_of_place(text), [], text)


if __name__ == "__main__":
    unittest.main()
