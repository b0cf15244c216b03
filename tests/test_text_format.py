import unittest

from beanjars.errors import ParseError
from beanjars.jars import Jar
from beanjars.tables import Table
from beanjars.text_format import format_jar, format_table, format_way, parse_jar, parse_table, parse_way
from samples import all_counts, all_rows, mixed_rows, no_sequences, some_rows

BIG = 10 ** 60 - 1
SIGNS = "0123456789 -\n\t\r,.+ax\u0660\u00b2\u00bd\uff11\u2212\u00a0\x0b\x0c\x1c\u2028\x00"
COUNTS = [[0], [1], [10], [0, 0], [1, 2], [3, 0, 12], [BIG], [BIG, 0, 10 ** 59], [0] * 8, [9, 8, 7, 6, 5, 4, 3, 2],
          [BIG] * 8]
WAYS = [[], [(0, 0)], [(0, 1)], [(0, 1), (1, 1)], [(7, 7), (0, 10), (3, 3)], [(BIG - 1, BIG)], [(9, 10), (10, 11)],
        [(0, BIG)] * 20]
NO_TEXTS = [value for value in no_sequences() if not isinstance(value, str)] + [[], (), ["1"], ("1",), b"1", b"0-1", 1]


def is_plain_integer(text):
    """Whether a text is an integer, by the words of the document."""
    if not 1 <= len(text) <= 60 or any(sign not in "0123456789" for sign in text):
        return False
    return len(text) == 1 or text[0] != "0"


def is_plain_draw(text):
    """Whether a text is a draw, by the words of the document."""
    first, found, second = text.partition("-")
    return found == "-" and is_plain_integer(first) and is_plain_integer(second) and int(first) <= int(second)


def split_at(text, sign):
    """The parts of a text, found sign by sign."""
    parts = [""]
    for one in text:
        if one == sign:
            parts.append("")
        else:
            parts[-1] += one
    return parts


def first_wrong(parts, is_right):
    """The index of the first wrong part, or -1."""
    return next((index for index, part in enumerate(parts) if not is_right(part)), -1)


class FormatTest(unittest.TestCase):
    def test_jars_sign_by_sign(self):
        for counts in COUNTS + [list(counts) for counts in all_counts(3, 4)]:
            text = ""
            for count in counts:
                text += (" " if text else "") + str(count)
            self.assertEqual(format_jar(Jar(counts)), text)
            self.assertEqual(parse_jar(text), Jar(counts))
        self.assertEqual(format_jar(Jar([2, 0, 10])), "2 0 10")

    def test_tables_sign_by_sign(self):
        for rows in some_rows()[::3]:
            text = str(rows)[2:-2].replace("], [", "\n").replace(",", "")
            self.assertEqual(format_table(Table(rows)), text)
            self.assertEqual(parse_table(text), Table(rows))
        self.assertEqual(format_table(Table([[1, 0], [0, 0]])), "1 0\n0 0")

    def test_ways_sign_by_sign(self):
        for way in WAYS:
            text = ""
            for a, b in way:
                text += (" " if text else "") + str(a) + "-" + str(b)
            self.assertEqual(format_way(way), text)
            self.assertEqual(parse_way(text), way)
            for draw in parse_way(text):
                self.assertIsInstance(draw, tuple)
        self.assertEqual(format_way([(0, 1), (10, 12)]), "0-1 10-12")
        self.assertEqual(format_way([]), "")

    def test_kinds(self):
        self.assertIsInstance(parse_jar("1"), Jar)
        self.assertIsInstance(parse_table("0"), Table)
        self.assertIsInstance(parse_way(""), list)
        for text in (format_jar(Jar([1])), format_table(Table([[0]])), format_way([(0, 1)])):
            self.assertIsInstance(text, str)

    def test_by_name(self):
        self.assertEqual((format_jar(jar=Jar([1])), format_table(table=Table([[0]])), format_way(way=[])),
                         ("1", "0", ""))
        self.assertEqual((parse_jar(text="1"), parse_table(text="0"), parse_way(text="0-0")),
                         (Jar([1]), Table([[0]]), [(0, 0)]))

    def test_returned_lists_can_be_changed(self):
        parse_way("0-1").clear()
        self.assertEqual(parse_way("0-1"), [(0, 1)])
        way = [(0, 1)]
        format_way(way)
        self.assertEqual(way, [(0, 1)])


class ParseTest(unittest.TestCase):
    def refused(self, parse, text, index):
        with self.assertRaises(ParseError) as caught:
            parse(text)
        self.assertEqual(caught.exception.index, index)

    def check_jar(self, text):
        parts = split_at(text, " ")
        wrong = first_wrong(parts, is_plain_integer)
        if wrong >= 0:
            self.refused(parse_jar, text, wrong)
        elif len(parts) > 8:
            self.refused(parse_jar, text, None)
        else:
            self.assertEqual(format_jar(parse_jar(text)), text)
            self.assertEqual(parse_jar(text).counts(), [int(part) for part in parts])

    def check_table(self, text):
        rows = split_at(text, "\n")
        wrong = first_wrong(rows, lambda row: first_wrong(split_at(row, " "), is_plain_integer) < 0)
        if wrong >= 0:
            self.refused(parse_table, text, wrong)
            return
        entries = [[int(part) for part in row.split(" ")] for row in rows]
        size = len(rows)
        right = size <= 8 and all(len(row) == size for row in entries) and all(
            entries[a][b] < size and entries[a][b] == entries[b][a] for a in range(size) for b in range(size))
        if right:
            self.assertEqual(format_table(parse_table(text)), text)
            self.assertEqual(parse_table(text).rows(), entries)
        else:
            self.refused(parse_table, text, None)

    def check_way(self, text):
        parts = split_at(text, " ") if text else []
        wrong = first_wrong(parts, is_plain_draw)
        if wrong >= 0:
            self.refused(parse_way, text, wrong)
        else:
            self.assertEqual(format_way(parse_way(text)), text)

    def changed(self, text):
        """All texts with one sign more, less or another one."""
        for at in range(len(text) + 1):
            for sign in SIGNS:
                yield text[:at] + sign + text[at:]
                yield text[:at] + sign + text[at + 1:]
            yield text[:at] + text[at + 1:]
            yield text[:at] + text[at:at + 1] * 2 + text[at + 1:]
            yield text[:at] + text[at:at + 2][::-1] + text[at + 2:]

    def test_changed_jars(self):
        for counts in ([0], [10], [1, 2], [3, 0, 12], [0] * 8, [5, 0, 10 ** 59], [BIG, 1]):
            for text in self.changed(" ".join(str(count) for count in counts)):
                self.check_jar(text)

    def test_changed_tables(self):
        for rows in [[[0]]] + list(all_rows(2)) + list(all_rows(3))[::150] + [mixed_rows(8, 1)]:
            for text in self.changed("\n".join(" ".join(str(entry) for entry in row) for row in rows)):
                self.check_table(text)

    def test_changed_ways(self):
        for way in ([], [(0, 0)], [(0, 1), (1, 1)], [(9, 10), (3, 3), (0, 10)], [(0, BIG), (10 ** 59, BIG)]):
            for text in self.changed(" ".join(f"{a}-{b}" for a, b in way)):
                self.check_way(text)

    def test_spaces_and_empty_texts(self):
        for text, index in (("", 0), (" ", 0), (" 1", 0), ("1 ", 1), ("1  2", 1), ("1 2 ", 2), ("  ", 0),
                            ("1 2  3", 2)):
            self.refused(parse_jar, text, index)
        for text, index in (("", 0), (" ", 0), ("\n", 0), ("0\n", 1), ("\n0", 0), ("0 0\n0 0\n", 2), ("0 0\n\n0 0", 1),
                            (" 0", 0), ("0 ", 0), ("0 0\n0  0", 1), ("0 0 \n0 0", 0), ("0 0\n0 0 ", 1)):
            self.refused(parse_table, text, index)
        for text, index in ((" ", 0), (" 0-1", 0), ("0-1 ", 1), ("0-1  0-1", 1), ("  ", 0), ("0-1 0-0 ", 2)):
            self.refused(parse_way, text, index)
        self.assertEqual(parse_way(""), [])

    def test_integers_that_are_written_otherwise(self):
        for part in ("+1", "-1", "-0", "01", "00", "007", "1.0", "1e3", "0x1", "1_000", "\u0661", "\uff11", "\u00b2",
                     "a", "1a", "1\t", "\t1", "1\r", "9" * 61, "1" + "0" * 60, "0" * 60, "1,2", "None", "", "--"):
            self.refused(parse_jar, part, 0)
            self.refused(parse_jar, "3 " + part, 1)
            self.refused(parse_table, part, 0)
            self.refused(parse_table, "0 0\n0 " + part, 1)
            self.refused(parse_way, "0-" + part, 0)
            self.refused(parse_way, "0-0 " + part + "-9", 1)
        for part in ("9" * 60, "1" + "0" * 59, "10", "0"):
            self.assertEqual(parse_jar("0 " + part), Jar([0, int(part)]))
            self.assertEqual(parse_way("0-" + part), [(0, int(part))])

    def test_draws_that_are_written_otherwise(self):
        for text, index in (("1-0", 0), ("0-1 2-1", 1), ("10-9", 0), ("0", 0), ("0-", 0), ("-0", 0), ("-", 0),
                            ("0--1", 0), ("0-1-2", 0), ("0 - 1", 0), ("0-1,1-1", 0), ("(0, 1)", 0), ("0-1\n0-1", 0),
                            ("0-0 0-0 0:1", 2)):
            self.refused(parse_way, text, index)
        self.assertEqual(parse_way("8-9 99-100 7-7"), [(8, 9), (99, 100), (7, 7)])

    def test_counts_and_rows_that_are_no_jar_or_table(self):
        for text in ("0 0 0 0 0 0 0 0 0", "1 2 3 4 5 6 7 8 9 10"):
            self.refused(parse_jar, text, None)
        self.refused(parse_jar, "1 2 3 4 5 6 7 8 x", 8)
        for text in ("1", "0 0", "0\n0", "0 1\n0 0", "0 2\n2 0", "0 0\n0", "0 0\n0 0 0", "0 0\n0 0\n0 0",
                     "\n".join(["0 0 0 0 0 0 0 0 0"] * 9), "0 " + "9" * 60 + "\n0 0"):
            self.refused(parse_table, text, None)
        self.refused(parse_table, "0 1\n0 x", 1)
        self.refused(parse_table, "\n".join(["0 0 0 0 0 0 0 0 0"] * 9 + ["00"]), 9)

    def test_values_that_are_no_strings(self):
        for value in NO_TEXTS:
            for parse in (parse_jar, parse_table, parse_way):
                self.refused(parse, value, None)

    def test_long_texts(self):
        self.refused(parse_jar, " ".join(["1"] * 10000), None)
        self.refused(parse_jar, "1" * 20000, 0)
        self.refused(parse_jar, " ".join(["1"] * 9999 + [""]), 9999)
        self.refused(parse_table, "\n".join(["0"] * 10000), None)
        self.refused(parse_table, " ".join(["0"] * 10000), None)
        self.refused(parse_table, "\n".join(["0"] * 9000 + ["00"]), 9000)
        self.assertEqual(parse_way(" ".join(["0-1"] * 5000)), [(0, 1)] * 5000)
        self.refused(parse_way, " ".join(["0-1"] * 4999 + ["1-0"]), 4999)


if __name__ == "__main__":
    unittest.main()
