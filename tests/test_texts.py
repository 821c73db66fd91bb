"""[2.3] and plan_text and read_plan of eyeorder/plans.py."""

import random
import re
import unittest

from eyeorder.errors import BadPlan, BadText
from eyeorder.plans import plan_text, read_plan
from tests.promises import ODD, P, PromiseCase, first_fault, random_walls, walls_of

BIG = 10 ** 12
TEXT = "wall a 2 -1 2 1\nwall b 4 -3 4 3"
INTEGER = "(0|-?[1-9][0-9]*)"
LINE = re.compile(" ".join(["wall", "([a-z][a-z0-9]{0,7})"] + [INTEGER] * 4))


def read_by_the_words(text):
    """The plan of the text, or the number of the first wrong line."""
    if text == "":
        return ()
    walls = ()
    for number, line in enumerate(text.split("\n"), 1):
        found = LINE.fullmatch(line)
        if not found:
            return number
        x, y, u, v = map(int, found.groups()[1:])
        named = found.group(1) in [name for name, _, _ in walls]
        walls += ((found.group(1), (x, y), (u, v)),)
        if (x, y) == (u, v) or named or first_fault(walls):
            return number
    return walls


class TextCase(PromiseCase):
    def assert_read(self, text):
        wanted = read_by_the_words(text)
        if type(wanted) is int:
            self.assert_error(BadText, wanted, read_plan, text)
        else:
            self.assert_same(read_plan(text), wanted)
            self.assert_same(plan_text(wanted), text)

    def assert_bad(self, number, text):
        self.assert_error(BadText, number, read_plan, text)


class DocumentExamples(TextCase):
    def test_a_wall_that_crosses(self):
        self.assert_bad(2, "wall a 0 0 4 0\nwall b 1 -1 1 1")

    def test_no_walls(self):
        self.assert_same([read_plan(""), plan_text(())], [(), ""])

    def test_written_and_read(self):
        self.assert_same([plan_text(P), read_plan(TEXT)], [TEXT, P])


class Written(TextCase):
    def test_integers(self):
        walls = (("a", (0, -5), (-10, 100)), ("b2", (-60, 60), (-BIG, BIG)))
        self.assert_same(plan_text(walls), f"wall a 0 -5 -10 100\nwall b2 -60 60 -{BIG} {BIG}")

    def test_the_order_is_kept(self):
        for walls in [P, P[::-1]]:
            self.assert_same(read_plan(plan_text(walls)), walls)
        self.assert_same(plan_text(P[::-1]), "wall b 4 -3 4 3\nwall a 2 -1 2 1")

    def test_random_plans_are_read_again(self):
        chance = random.Random(3)
        for many in range(1, 10):
            for _ in range(100):
                walls = random_walls(chance, many, 60)
                while first_fault(walls):
                    walls = walls[:-1]
                text = plan_text(walls)
                self.assert_same(read_plan(text), walls)
                self.assert_read(text)

    def test_values_that_are_no_plan(self):
        crossing = walls_of((0, 0, 4, 0), (1, -1, 1, 1))
        for thing in [crossing, list(P), P[0], P + P[:1], TEXT, None, {}, [], (("A", (0, 0), (1, 0)),)]:
            self.assert_error(BadPlan, thing, plan_text, thing)
            self.assert_error(BadPlan, thing, plan_text, plan=thing)


class WrongLines(TextCase):
    def test_line_feeds(self):
        self.assert_bad(2, "wall a 0 0 4 0\n")
        self.assert_bad(2, "wall a 0 0 4 0\n\n")
        self.assert_bad(3, TEXT + "\n")
        self.assert_bad(3, TEXT + "\n\n")
        self.assert_bad(1, "\n")
        self.assert_bad(1, "\n\n")
        self.assert_bad(1, "\n" + TEXT)
        self.assert_bad(2, TEXT.replace("\n", "\n\n"))

    def test_blanks(self):
        for number, line in [(1, TEXT.split("\n")[0]), (2, TEXT.split("\n")[1])]:
            for k, sign in enumerate(line):
                if sign == " ":
                    self.assert_bad(number, TEXT.replace(line, line[:k] + " " + line[k:]))
                    self.assert_bad(number, TEXT.replace(line, line[:k] + line[k + 1:]))
            self.assert_bad(number, TEXT.replace(line, " " + line))
            self.assert_bad(number, TEXT.replace(line, line + " "))
        for text in [" ", "  ", "wall", "wall ", "wall a", "wall a 0 0 4", "wall a 0 0 4 "]:
            self.assert_bad(1, text)

    def test_other_white_space_and_line_breaks(self):
        for sign in ["\t", "\r", "\x0b", "\x0c", "\x1c", "\x1d", "\x1e", "\x85", "\xa0", "\u2003", "\u2028", "\u2029",
                     "\u3000", "\u200b", "\ufeff", "\x00", "\r\n"]:
            self.assert_bad(1, "wall a 0 0 4 0" + sign)
            self.assert_bad(1, sign + "wall a 0 0 4 0")
            self.assert_bad(1, "wall a 0 0 4" + sign + "0")
            self.assert_bad(1, "wall" + sign + "a 0 0 4 0")
            self.assert_bad(1, TEXT.replace("\n", sign))
            self.assert_bad(2, TEXT + sign)
            self.assert_bad(1, sign)

    def test_words_missing_or_too_many(self):
        words = "wall a 0 0 4 0".split(" ")
        for k in range(len(words)):
            self.assert_bad(1, " ".join(words[:k] + words[k + 1:]))
            self.assert_bad(2, "wall z 9 9 8 8\n" + " ".join(words[:k] + words[k + 1:]))
            self.assert_bad(1, " ".join(words[:k] + [words[k]] + words[k:]))
        self.assert_bad(1, "wall a 0 0 4 0 0")
        self.assert_bad(1, "wall a 0 0 4 0 wall b 0 1 4 1")
        self.assert_bad(1, "a 0 0 4 0")

    def test_the_first_word(self):
        for word in ["Wall", "WALL", "walls", "wal", "a", "", "wall:", "0"]:
            self.assert_bad(1, word + " a 0 0 4 0")
        self.assert_same(read_plan("wall wall 0 0 4 0"), (("wall", (0, 0), (4, 0)),))

    def test_integers_in_another_form(self):
        for word in ["00", "01", "007", "-0", "-00", "-01", "+0", "+1", "--1", "-", "+", "1-", "- 1", "1.0", "1e1",
                     "1_0", "0x1", "0b1", "a", "", "\u0663", "1\u0663", "\u00b2", "\uff11", "-\u0663", "1,", "True",
                     "None", "\u22121", "1L"]:
            for k in range(4):
                words = ["50", "51", "52", "53"]
                words[k] = word
                self.assert_bad(1, "wall a " + " ".join(words))
                self.assert_bad(2, "wall z 9 9 8 8\nwall a " + " ".join(words))

    def test_integers_in_their_form(self):
        for word in ["0", "1", "-1", "9", "10", "-10", "100", "909", "-60", "60", "999999999999", "-1000000000000",
                     "1" * 30]:
            self.assert_same(read_plan(f"wall a {word} 7 3 8"), (("a", (int(word), 7), (3, 8)),))
            self.assert_same(read_plan(f"wall a 3 7 4 {word}"), (("a", (3, 7), (4, int(word))),))

    def test_names(self):
        for name in ["abcdefghi", "A", "aB", "0", "1a", "a_", "-a", "\u00e9", "a\u0663", "a\u00b2", "", "a-b"]:
            self.assert_bad(1, f"wall {name} 0 0 4 0")
            self.assert_bad(3, TEXT + f"\nwall {name} 10 10 14 10")
        for name in ["abcdefgh", "a1234567", "z"]:
            self.assert_same(read_plan(f"wall {name} 0 0 4 0"), ((name, (0, 0), (4, 0)),))

    def test_equal_ends(self):
        self.assert_bad(1, "wall a 4 4 4 4")
        self.assert_bad(3, TEXT + "\nwall c 0 0 0 0")
        self.assert_same(read_plan("wall a 4 5 5 4"), (("a", (4, 5), (5, 4)),))

    def test_a_name_twice(self):
        self.assert_bad(3, TEXT + "\nwall a 10 10 14 10")
        self.assert_bad(3, TEXT + "\nwall b 10 10 14 10")
        self.assert_bad(2, "wall a 0 0 4 0\nwall a 0 0 4 0\nwall a 0 0 4 0")

    def test_crossings_with_an_earlier_wall(self):
        self.assert_bad(3, TEXT + "\nwall c 1 0 3 0")
        self.assert_bad(3, TEXT + "\nwall c 3 0 5 0\nwall d 1 0 3 0")
        self.assert_bad(4, TEXT + "\nwall c 2 0 4 0\nwall d 3 1 3 -1\nwall a 0 0 0 0")
        self.assert_bad(3, TEXT + "\nwall c 4 0 4 9")
        self.assert_same(len(read_plan(TEXT + "\nwall c 2 0 4 0\nwall d 3 1 3 0")), 4)

    def test_the_first_wrong_line_counts(self):
        self.assert_bad(2, "wall a 0 0 4 0\nwall b 1 -1 1 1\nwalls")
        self.assert_bad(2, "wall a 0 0 4 0\nwalls\nwall b 1 -1 1 1")
        self.assert_bad(1, "walls\nwall a 0 0 4 0\nwall b 1 -1 1 1")
        # The pair of the lines 1 and 4 is the first fault, but the line 3 is the first wrong one.
        self.assert_bad(3, "wall a 0 0 4 0\nwall b 10 0 14 0\nwall c 12 -1 12 1\nwall d 2 -1 2 1")

    def test_long_texts(self):
        lines = [f"wall w{k} 0 {k} 9 {k}" for k in range(40)]
        self.assert_same(len(read_plan("\n".join(lines))), 40)
        self.assert_bad(41, "\n".join(lines + ["wall z 3 38 3 40"]))


class AnyValue(TextCase):
    def test_values_that_are_no_strings(self):
        for thing in ODD + [P, [TEXT], (TEXT,), {TEXT: 1}, [], ["wall a 0 0 4 0"]]:
            if type(thing) is str:
                self.assert_read(thing)
            else:
                self.assert_bad(0, thing)
                self.assert_error(BadText, 0, read_plan, text=thing)

    def test_one_sign_more_less_or_other(self):
        for k in range(len(TEXT) + 1):
            self.assert_read(TEXT[:k] + TEXT[k + 1:])
            self.assert_read(TEXT[:k] + TEXT[k:k + 1] + TEXT[k:])
            for sign in " \n\t\r-+0129awzA_\u0663\u00e9":
                self.assert_read(TEXT[:k] + sign + TEXT[k:])
                self.assert_read(TEXT[:k] + sign + TEXT[k + 1:])

    def test_lines_exchanged_repeated_and_cut(self):
        lines = TEXT.split("\n") + ["wall c 2 0 4 0", "wall d 3 3 3 -3", "wall e 3", ""]
        for one in lines:
            for other in lines:
                for third in lines:
                    self.assert_read("\n".join([one, other, third]))


if __name__ == "__main__":
    unittest.main()
