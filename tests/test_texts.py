"""Points 2, 3, 4, 5 and 6: texts of guards and kernels, and what is read from them."""

import random
import re

from plain import Case, FEW, GREAT, MANY, a_guard, small_kernels
from stridelanes import readings, texts
from stridelanes.errors import InvalidGuard, Unreadable
from stridelanes.guards import count_lanes
from stridelanes.kernels import Kernel
from stridelanes.readings import read_guard, read_kernel
from stridelanes.texts import show_guard, show_kernel

EXAMPLE = Kernel(10, [("put", FEW, "x", 2, 0, 1, 0), ("move", FEW, "y", 1, 0, "x", 3, -1, 0)], [1])
EXAMPLE_TEXT = "lanes 10; put 0:10:1:0 x 2 0 1 0; barrier; move 0:10:1:0 y 1 0 x 3 -1 0"

INTEGER = "(?:0|-?[1-9][0-9]{0,99})"
GUARD = ":".join([INTEGER] * 4)
NAME = "[a-z]{1,8}"
PLACE = f"{NAME} {INTEGER} {INTEGER}"
STATEMENT = f"(?:put {GUARD} {PLACE} {INTEGER} {INTEGER}|move {GUARD} {PLACE} {PLACE} {INTEGER}|" \
            f"sum {GUARD} {PLACE} {PLACE} {PLACE})"


def is_guard(numbers):
    low, high, step, rest = numbers
    return 0 <= low <= high and 0 <= rest < step


def guard_has_text(text):
    """Tell whether some guard has a text, by the form of texts."""
    return re.fullmatch(GUARD, text) is not None and is_guard([int(part) for part in text.split(":")])


def kernel_has_text(text):
    """Tell whether some kernel has a text: its form first, then what its numbers have to be."""
    if re.fullmatch(f"lanes {INTEGER}(?:; (?:barrier|{STATEMENT}))*", text) is None:
        return False
    first, *parts = text.split("; ")
    lanes = int(first.split(" ")[1])
    words = [part.split(" ") for part in parts]
    guards = [[int(number) for number in part[1].split(":")] for part in words if len(part) > 1]
    kinds = "".join("b" if part == ["barrier"] else "s" for part in words)
    placed = not kinds.startswith("b") and not kinds.endswith("b") and "bb" not in kinds
    return lanes >= 1 and placed and all(is_guard(guard) and guard[1] <= lanes for guard in guards)


def changed_texts(text, signs):
    """The texts with one character left out, put in or exchanged for another one, at each place."""
    for at in range(len(text) + 1):
        if at < len(text):
            yield text[:at] + text[at + 1:]
        for sign in signs:
            yield text[:at] + sign + text[at:]
            if at < len(text):
                yield text[:at] + sign + text[at + 1:]


def far_kernels(seed, many):
    chance = random.Random(seed)
    for kernel in small_kernels(seed, many, most_lanes=10 ** 6, most_statements=12, factor=10 ** 29 - 1):
        lanes, barriers = kernel.lanes * 10 ** 24, kernel.barriers
        names = {array: "".join(chance.choice("abcxyz") for _ in range(chance.randint(1, 8))) for array in "xy"}
        statements = []
        for word, guard, *items in kernel.statements:
            guard = (guard[0] * 10 ** 20, guard[1] * 10 ** 24, guard[2] * 10 ** 9, guard[3])
            statements.append((word, guard, *[names.get(item, item) for item in items]))
        yield Kernel(lanes, statements, barriers)


class TextCase(Case):
    def reads_guard(self, text):
        if guard_has_text(text):
            self.assertEqual(show_guard(read_guard(text)), text)
        else:
            self.refuses(Unreadable, text, read_guard, text)

    def reads_kernel(self, text):
        if kernel_has_text(text):
            self.assertEqual(show_kernel(read_kernel(text)), text)
        else:
            self.refuses(Unreadable, text, read_kernel, text)


class ShowTest(TextCase):
    def test_examples_of_the_document(self):
        self.assertEqual(show_guard((10, 90, 12, 10)), "10:90:12:10")
        self.assertEqual(show_kernel(EXAMPLE), EXAMPLE_TEXT)
        self.assertEqual(show_kernel(Kernel(3, [])), "lanes 3")
        self.refuses(Unreadable, "lanes 0", read_kernel, "lanes 0")

    def test_functions_are_defined_in_these_files(self):
        self.defined_in(texts, "show_guard", "show_kernel")
        self.defined_in(readings, "read_guard", "read_kernel")

    def test_all_words(self):
        put, move = ("put", (0, 0, 9, 8), "a", -1, -2, 0, -GREAT), ("move", MANY, "abcdefgh", GREAT, 0, "z", -3, 4, -5)
        total = ("sum", (1, 2, 3, 0), "xy", 1, 2, "yx", 3, 4, "xy", -5, -6)
        self.assertEqual(show_kernel(Kernel(GREAT, [put, move, total, put], [1, 3])),
                         f"lanes {GREAT}; put 0:0:9:8 a -1 -2 0 -{GREAT}; barrier; "
                         f"move 0:{GREAT}:1:0 abcdefgh {GREAT} 0 z -3 4 -5; sum 1:2:3:0 xy 1 2 yx 3 4 xy -5 -6; "
                         f"barrier; put 0:0:9:8 a -1 -2 0 -{GREAT}")

    def test_guards_read_again(self):
        chance = random.Random(111)
        for _ in range(200):
            for factor in (1, 10 ** 27):
                guard = tuple(number * factor for number in a_guard(chance, chance.randint(0, 900)))
                self.assertEqual(show_guard(guard), ":".join(str(number) for number in guard))
                self.assertEqual(read_guard(show_guard(guard)), guard)
                self.assertIs(type(read_guard(show_guard(guard))), tuple)
                self.assertGreaterEqual(count_lanes(read_guard(show_guard(guard))), 0)

    def test_kernels_read_again(self):
        barriers = 0
        for kernel in [*small_kernels(112, 200, most_statements=12), *far_kernels(113, 40), Kernel(1, [])]:
            text = show_kernel(kernel)
            self.assertTrue(kernel_has_text(text), text)
            found = read_kernel(text)
            self.assertEqual(found, kernel)
            self.assertIs(type(found), Kernel)
            self.assertEqual(show_kernel(found), text)
            barriers += len(kernel.barriers)
        self.assertGreater(barriers, 100)

    def test_kernel_stays_and_arguments_by_name(self):
        copy = Kernel(10, EXAMPLE.statements, EXAMPLE.barriers)
        self.assertEqual(show_guard(guard=(1, 2, 3, 0)), "1:2:3:0")
        self.assertEqual(show_kernel(kernel=EXAMPLE), EXAMPLE_TEXT)
        self.assertEqual(read_guard(text="1:2:3:0"), (1, 2, 3, 0))
        self.assertEqual(read_kernel(text=EXAMPLE_TEXT), EXAMPLE)
        self.assertEqual(EXAMPLE, copy)


class GuardTextTest(TextCase):
    def test_signs_changed(self):
        for text in ("0:10:1:0", "10:90:12:10", "5:5:7:6", "100:200:30:0"):
            self.assertTrue(guard_has_text(text))
            for changed in changed_texts(text, ":019- +;a."):
                self.reads_guard(changed)

    def test_texts_of_no_guard(self):
        for text in ("", ":", ":::", "0", "0:1:1", "0:1:1:0:0", "0:1:1:", ":0:1:1", "2:1:1:0", "0:1:0:0", "0:1:1:1",
                     "-1:1:1:0", "0:1:-1:0", "0:1:1:-1", "0:1:2:2", "-0:1:1:0", "00:1:1:0", "0:01:1:0", "+0:1:1:0",
                     " 0:1:1:0", "0:1:1:0 ", "0: 1:1:0", "0 1 1 0", "0:1_0:1:0", "a:1:1:0", "0:1:1:0\n", "0:1:1:0;",
                     "\u0661:2:1:0", "0:\u00b2:1:0", "0:1e1:1:0", "(0,1,1,0)", "--1:1:1:0", "-:1:1:0"):
            self.assertFalse(guard_has_text(text), text)
            self.refuses(Unreadable, text, read_guard, text)

    def test_numbers_of_digits(self):
        for digits in (99, 100, 101):
            for text in (f"0:{'9' * digits}:1:0", f"1:2:1{'0' * (digits - 1)}:0", f"{'7' * digits}:{'8' * digits}:1:0"):
                self.assertEqual(guard_has_text(text), digits <= 100)
                self.reads_guard(text)
        self.refuses(Unreadable, f"0:{'0' * 99}1:1:0", read_guard, f"0:{'0' * 99}1:1:0")
        self.refuses(Unreadable, f"0:{'1' * 3990}:1:0", read_guard, f"0:{'1' * 3990}:1:0")
        self.assertEqual(read_guard(f"0:1{'0' * 99}:1:0"), (0, 10 ** 99, 1, 0))

    def test_no_guard_is_unreadable_and_not_invalid(self):
        with self.assertRaises(Unreadable) as caught:
            read_guard("3:2:1:0")
        self.assertNotIsInstance(caught.exception, InvalidGuard)


class KernelTextTest(TextCase):
    def test_signs_changed(self):
        readable = 0
        for text in (EXAMPLE_TEXT, "lanes 3", "lanes 20; sum 3:20:4:1 ab 1 -2 b 0 0 abcdefgh 10 9; barrier; "
                     "put 0:0:1:0 x 0 0 0 0; put 1:20:2:1 x -1 0 0 1"):
            self.assertTrue(kernel_has_text(text))
            for changed in changed_texts(text, "01:; -+azA."):
                readable += kernel_has_text(changed)
                self.reads_kernel(changed)
        self.assertGreater(readable, 100)

    def test_words_and_parts_exchanged(self):
        chance = random.Random(114)
        readable = 0
        for kernel in small_kernels(115, 300):
            text = show_kernel(kernel)
            for between in (" ", "; "):
                words = text.split(between)
                for _ in range(4):
                    changed = list(words)
                    at, other = chance.randrange(len(words)), chance.randrange(len(words))
                    way = chance.randrange(4)
                    if way == 0:
                        changed[at], changed[other] = changed[other], changed[at]
                    elif way == 1:
                        del changed[at]
                    elif way == 2:
                        changed.insert(other, changed[at])
                    else:
                        changed[at] = chance.choice(("barrier", "put", "sum", "lanes", "x", "0", "-1", "0:1:1:0"))
                    self.reads_kernel(between.join(changed))
                    readable += kernel_has_text(between.join(changed))
        self.assertGreater(readable, 200)

    def test_texts_of_no_kernel(self):
        put = "put 0:10:1:0 x 2 0 1 0"
        for text in ("", " ", "lanes", "lanes ", "lanes -1", "lanes 01", "lanes +1", "lanes 1 ", " lanes 1", "lanes  1",
                     "lanes 1 1", "Lanes 1", "lane 1", "1", put, f"{put}; lanes 10", f"lanes 10;{put}", "lanes 10;",
                     f"lanes 10 ; {put}", f"lanes 10;  {put}", f"lanes 10; {put};", f"lanes 10; {put}; ",
                     f"lanes 10; {put} ", f"lanes 10; {put.replace(' x', '  x')}", "lanes 10; ", "lanes 10; ; ",
                     f"lanes 9; {put}", f"lanes 0; {put}", "lanes 10; barrier", f"lanes 10; barrier; {put}",
                     f"lanes 10; {put}; barrier", f"lanes 10; {put}; barrier; barrier; {put}",
                     f"lanes 10; {put}; barrier ; {put}", f"lanes 10; {put}; barriers; {put}",
                     f"lanes 10; {put}; Barrier; {put}", f"lanes 10; {put} 0", f"lanes 10; {put[:-2]}",
                     "lanes 10; put 0:10:1:0 x 2 0 1 y", "lanes 10; put 0:10:1:0 5 2 0 1 0",
                     "lanes 10; put 0:10:1:0 X 2 0 1 0", "lanes 10; put 0:10:1:0 abcdefghi 2 0 1 0",
                     "lanes 10; put 0:10:1 x 2 0 1 0", "lanes 10; put 0:10:1:1 x 2 0 1 0",
                     "lanes 10; put 3:2:1:0 x 2 0 1 0", "lanes 10; put 0:10:1:0 x 2 -0 1 0",
                     "lanes 10; put 0:10:1:0 x 2 00 1 0", "lanes 10; put 0:10:1:0 x 2 +1 1 0",
                     "lanes 10; get 0:10:1:0 x 2 0 1 0", "lanes 10; move 0:10:1:0 x 2 0 1 0",
                     "lanes 10; sum 0:10:1:0 x 2 0 y 1 0 3 1 0", "lanes 10; move 0:10:1:0 x 2 0 y 1 0 z",
                     "lanes 10\n", "lanes\t10", "lanes 10, " + put, "lanes 10; put 0:10:1:0 x 2 0 1 0\n"):
            self.assertFalse(kernel_has_text(text), text)
            self.refuses(Unreadable, text, read_kernel, text)

    def test_numbers_of_digits(self):
        either = ("lanes 5; put 0:5:1:0 x {} 0 0 0", "lanes 5; put 0:5:1:0 x 0 0 0 {}",
                  "lanes 5; move 0:5:1:0 x 0 0 x 1 2 {}", "lanes 5; sum 0:5:1:0 x 0 0 x 1 2 x {} 0")
        positive = ("lanes {}", "lanes 5; put 0:5:{}:0 x 0 0 0 0")
        for digits in (1, 99, 100, 101):
            for sign in ("", "-"):
                for form in either + positive:
                    text = form.format(sign + "9" * digits)
                    self.reads_kernel(text)
                    self.assertEqual(kernel_has_text(text), digits <= 100 and (form in either or sign == ""), text)
            # No guard goes beyond the lanes.
            self.reads_kernel(f"lanes 5; put 0:{'9' * digits}:1:0 x 0 0 0 0")
            self.reads_kernel(f"lanes {'9' * digits}; put 0:{'9' * digits}:1:0 x 0 0 0 0")
        self.assertEqual(read_kernel(f"lanes 1{'0' * 99}").lanes, 10 ** 99)

    def test_many_barriers(self):
        put = "put 0:1:1:0 x 0 0 0 0"
        text = "lanes 1; " + "; barrier; ".join([put] * 12)
        self.assertEqual(read_kernel(text).barriers, list(range(1, 12)))
        self.assertEqual(show_kernel(read_kernel(text)), text)
