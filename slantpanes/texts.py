"""The texts of yards [11.5].

The heaps are told as a dict of names and heaps, the promises as a tuple.
"""

from slantpanes.changes import is_heap_to_keep
from slantpanes.errors import BadText
from slantpanes.promises import first_unkept, is_name, is_promise

FIRST_LINE = "yard"
# Python turns no longer words into integers.
MOST_FIGURES = 4300


def text_of(heaps, promises):
    """The text of a yard."""
    lines = [FIRST_LINE]
    for name in sorted(heaps):
        lines.append(f"heap {name}")
        lines.extend([line_of_pair(pair) for pair in heaps[name]])
    lines.extend([line_of_promise(promise) for promise in promises])
    return "\n".join(lines)


def line_of_pair(pair):
    """The line of a stripe and its tint."""
    (m, c, r), tint = pair
    return f"stripe {m} {words_of(c)} {r} {tint}"


def line_of_promise(promise):
    """The line of a promise."""
    kind, name, told = promise
    if kind == "held":
        return f"{kind} {name} " + " ".join([words_of(direction).replace(" ", ",") for direction in told])
    if isinstance(told, tuple):
        return f"{kind} {name} {words_of(told)}"
    return f"{kind} {name} {told}"


def words_of(numbers):
    """The numbers, separated by blanks."""
    return " ".join([str(number) for number in numbers])


def state_read(text):
    """The heaps and the promises of a text."""
    if not isinstance(text, str):
        raise BadText(0)
    lines = text.split("\n")
    if lines[0] != FIRST_LINE:
        raise BadText(1)
    heaps, begin = heaps_read(lines)
    promises = ()
    for at in range(begin, len(lines)):
        promise = promise_read(lines[at])
        if not is_promise(heaps, promise) or promise in promises:
            raise BadText(at + 1)
        promises = (*promises, promise)
    unkept = first_unkept(heaps, promises)
    if unkept is not None:
        raise BadText(begin + unkept[0] + 1)
    return heaps, promises


def heaps_read(lines):
    """The heaps of the lines behind the first one, and the number, from 0 on, of the line behind them."""
    heaps, at, before = {}, 1, ""
    while at < len(lines) and lines[at].startswith("heap "):
        name = lines[at].removeprefix("heap ")
        if not is_name(name) or name <= before:
            raise BadText(at + 1)
        heaps[name] = heap_read(lines, at + 1)
        at += 1 + len(heaps[name])
        before = name
    return heaps, at


def heap_read(lines, begin):
    """The heap of the lines of stripes that begin here."""
    heap = ()
    for at in range(begin, len(lines)):
        if not lines[at].startswith("stripe "):
            break
        heap = (*heap, pair_read(lines[at]))
        if not is_heap_to_keep(heap):
            raise BadText(at + 1)
    if heap == ():
        raise BadText(begin + 1)
    return heap


def pair_read(line):
    """What the line of a stripe tells: its pair, or something that is none."""
    numbers = integers_read(line.split(" ")[1:])
    if len(numbers) < 3:
        return None
    return ((numbers[0], numbers[1:-2], numbers[-2]), numbers[-1])


def promise_read(line):
    """What the line of a promise tells: the promise, or something that is none."""
    kind, *words = line.split(" ")
    if kind == "never" and len(words) == 3 and words[0] == "above":
        return ("never above", words[1], integer_read(words[2]))
    if kind == "alike" and len(words) == 2:
        return (kind, *words)
    if kind == "return" or kind == "mean":
        return (kind, *words[:1], integers_read(words[1:]))
    if kind == "held":
        return (kind, *words[:1], tuple([integers_read(word.split(",")) for word in words[1:]]))
    return None


def integers_read(words):
    """The tuple of the integers that Python writes as these words, with None where there is none."""
    return tuple([integer_read(word) for word in words])


def integer_read(word):
    """The integer that Python writes as this word, None if there is none."""
    figures = word.removeprefix("-")
    if not figures.isascii() or not figures.isdigit() or len(figures) > MOST_FIGURES:
        return None
    # Python writes no 0 before other figures, and no sign before 0.
    return int(word) if word == "0" or figures[0] != "0" else None
