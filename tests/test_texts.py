import random
import unittest

from account import NOT_TABLES, random_jobs, refusal, table_of
from keepapart.errors import BadText, BadTimetable
from keepapart.jobs import Job, Timetable
from keepapart.texts import read_timetable, timetable_text

# Lines that are not accepted; all but for one thing like `mail 4 2 0 1` or `sync 12 11 10 9`.
BAD_LINES = [
    # spaces and other signs between and around the words
    "", " ", "    ", " mail 4 2 0 1", "mail 4 2 0 1 ", "mail  4 2 0 1", "mail 4  2 0 1", "mail 4 2 0  1",
    "mail 4 2 0 1  ", "mail\t4 2 0 1", "mail 4 2 0\t1", "mail 4 2 0 1\t", "mail 4 2 0 1\r", "mail 4 2\r0 1",
    "mail 4 2 0 1\x0b", "mail 4 2 0 1\x0c", "mail\u00a04 2 0 1", "mail 4 2 0\u20031", "mail 4 2 0 1\x00",
    "mail 4 2 0 1\u2028", "mail,4,2,0,1", "mail4 2 0 1", "mail 42 0 1", "mail_4_2_0_1",
    # missing and further words
    "mail", "mail 4", "mail 4 2", "mail 4 2 0", "4 2 0 1", "mail 4 2 0 1 1", "mail mail 4 2 0 1", "mail 4 2 0 1 x",
    "mail 4 2 0 1 # mail",
    # names
    " 4 2 0 1", "Mail 4 2 0 1", "MAIL 4 2 0 1", "mail1 4 2 0 1", "1 4 2 0 1", "ma-il 4 2 0 1", "abcdefghi 4 2 0 1",
    "ma\u00efl 4 2 0 1", "\u00df 4 2 0 1", "\uff41 4 2 0 1", "'mail' 4 2 0 1", "_ 4 2 0 1",
    # leading zeros
    "mail 04 2 0 1", "mail 4 02 0 1", "mail 4 2 00 1", "mail 4 2 01 1", "mail 4 2 0 01", "sync 012 11 10 9",
    # signs and other ways to write numbers
    "mail +4 2 0 1", "mail 4 +2 0 1", "mail 4 2 +0 1", "mail 4 2 -0 1", "mail 4 2 0 +1", "mail 4 2 0 -1",
    "mail -4 2 0 1", "mail 4 -2 0 1", "mail 4.0 2 0 1", "mail 4 2.0 0 1", "mail 4e0 2 0 1", "mail 0x4 2 0 1",
    "sync 1_2 11 10 9", "sync 12 1_1 10 9", "mail 4, 2 0 1", "mail four 2 0 1", "mail a 2 0 1", "mail 4 2 0 x",
    "mail None 2 0 1", "mail True 1 0 1", "mail 4 True 0 1", "mail 4 2 False 1",
    # other digits
    "mail \u0664 2 0 1", "mail 4 \u00b2 0 1", "mail 4 2 \uff10 1", "mail 4 2 0 \u0967", "mail 4 2 0 \u00b9",
    "sync 1\u0662 1 0 9",
    # numbers out of range
    "mail 0 0 0 1", "mail 0 1 0 1", "mail 13 2 0 1", "mail 14 2 0 1", "mail 100 2 0 1", "mail 4 0 0 1",
    "mail 4 5 0 1", "mail 12 13 0 1", "mail 4 2 4 1", "mail 4 2 5 1", "mail 12 2 12 1", "mail 1 1 1 1",
    "mail 4 2 0 0", "mail 4 2 0 10", "mail 4 2 0 11", "mail 4 2 0 12", "mail 4 2 0 100",
    "mail 1" + "0" * 5000 + " 2 0 1", "mail 4 2 0 " + "9" * 5000,
]

GOOD_LINES = ["mail 4 2 0 1", "sync 12 11 10 9", "log 1 1 0 5", "a 12 12 11 9", "abcdefgh 10 10 9 2", "z 11 1 0 1"]


class Writing(unittest.TestCase):
    def test_lines_in_order(self):
        table = Timetable({"sync": Job(12, 11, start=10, cost=9), "a": Job(1), "mail": Job(4, 2, start=3)})
        self.assertEqual(timetable_text(table), "sync 12 11 10 9\na 1 1 0 1\nmail 4 2 3 1\n")
        self.assertEqual(timetable_text(Timetable({"abcdefgh": Job(10)})), "abcdefgh 10 1 0 1\n")

    def test_no_timetable(self):
        for value in NOT_TABLES:
            self.assertIsNone(refusal(self, BadTimetable, timetable_text, value).part)


class BothWays(unittest.TestCase):
    def test_all_jobs(self):
        for period in range(1, 13):
            for duration in range(1, period + 1):
                for start in range(period):
                    for cost in range(1, 10):
                        table = Timetable({"job": Job(period, duration, start=start, cost=cost)})
                        text = f"job {period} {duration} {start} {cost}\n"
                        self.assertEqual(timetable_text(table), text)
                        self.assertEqual(read_timetable(text), table)

    def test_many_timetables(self):
        luck = random.Random(31)
        for _ in range(200):
            made = random_jobs(luck)
            names = luck.sample(["a", "zz", "mail", "sync", "log", "abcdefgh"], len(made))
            table = table_of(*made, names=names, costs=[luck.randint(1, 9) for _ in made])
            text = timetable_text(table)
            self.assertEqual(read_timetable(text), table)
            self.assertEqual(read_timetable(text).names, names)
            self.assertEqual(timetable_text(read_timetable(text)), text)
            self.assertIs(type(read_timetable(text)), Timetable)


class Reading(unittest.TestCase):
    def row_of(self, text):
        row = refusal(self, BadText, read_timetable, text).row
        self.assertIs(type(row), int)
        return row

    def test_good_lines(self):
        for line in GOOD_LINES:
            self.assertEqual(timetable_text(read_timetable(line + "\n")), line + "\n")

    def test_lines_that_are_not_accepted(self):
        for line in BAD_LINES:
            self.assertEqual(self.row_of(line + "\n"), 0, line)
            self.assertEqual(self.row_of("log 2 1 0 1\n" + line + "\n"), 1, line)
            self.assertEqual(self.row_of("log 2 1 0 1\nback 3 1 0 1\n" + line + "\ntail 1 1 0 1\n"), 2, line)

    def test_each_word_instead_of_each_other_one(self):
        for word in ["13", "-1", "+1", "01", "00", "", "x", "1.0", "\u0661", "1 1"]:
            for at in range(1, 5):
                words = "mail 4 2 0 1".split(" ")
                words[at] = word
                self.assertEqual(self.row_of(" ".join(words) + "\n"), 0, words)

    def test_row_of_the_first_one(self):
        for line in ["Mail 4 2 0 1", "mail 4 2 0", "mail 4 5 0 1"]:
            self.assertEqual(self.row_of(f"log 2 1 0 1\n{line}\n\n{line}\n"), 1)
            self.assertEqual(self.row_of(f"{line}\nlog 2 1 0 1\n{line}\n"), 0)
            self.assertEqual(self.row_of(f"log 2 1 0 1\na 2 1 0 1\nb 2 1 0 1\nc 1 1 0 1\nd 1 1 0 1\n{line}\n"), 5)

    def test_text_without_a_line(self):
        for text in ["", "mail 4 2 0 1", "mail", "?", " "]:
            self.assertEqual(self.row_of(text), 0)

    def test_characters_behind_the_last_line_feed(self):
        for rest in ["sync 4 2 0 1", "mail 4 2 0 1", " ", "x", "\r", "\t", "sync"]:
            self.assertEqual(self.row_of("mail 4 2 0 1\n" + rest), 1)
            self.assertEqual(self.row_of("mail 4 2 0 1\nlog 2 1 0 1\n" + rest), 2)

    def test_other_line_ends(self):
        for end in ["\r", "\r\n", "\x0b", "\x0c", "\x1c", "\x85", "\u2028", "\u2029"]:
            self.assertEqual(self.row_of(f"mail 4 2 0 1{end}sync 4 2 0 1{end}"), 0)
            self.assertEqual(self.row_of(f"log 2 1 0 1\nmail 4 2 0 1{end}sync 4 2 0 1\n"), 1)

    def test_empty_lines(self):
        self.assertEqual(self.row_of("\n"), 0)
        self.assertEqual(self.row_of("\nmail 4 2 0 1\n"), 0)
        self.assertEqual(self.row_of("mail 4 2 0 1\n\n"), 1)
        self.assertEqual(self.row_of("mail 4 2 0 1\n\nlog 2 1 0 1\n"), 1)

    def test_no_timetable(self):
        self.assertEqual(self.row_of("mail 4 2 0 1\nmail 4 2 0 1\n"), 0)
        self.assertEqual(self.row_of("log 2 1 0 1\nmail 4 2 0 1\nmail 3 1 0 1\n"), 0)
        self.assertEqual(self.row_of("".join(f"{name} 1 1 0 1\n" for name in "abcde")), 0)
        self.assertEqual(self.row_of("".join(f"{name} 1 1 0 1\n" for name in "abcda")), 0)
        self.assertEqual(self.row_of("".join(f"{name} 12 1 0 1\n" for name in "abcd")), 0)
        self.assertEqual(self.row_of("a 12 1 0 1\nb 12 1 0 1\nc 7 1 0 1\nd 2 1 0 1\n"), 0)

    def test_limits_of_a_timetable(self):
        self.assertEqual(len(read_timetable("".join(f"{name} 1 1 0 1\n" for name in "abcd"))), 4)
        self.assertEqual(len(read_timetable("a 10 1 0 1\nb 10 1 0 1\nc 10 1 0 1\nd 2 1 0 1\n")), 4)

    def test_lines_come_before_the_rest_and_the_rest_before_the_timetable(self):
        self.assertEqual(self.row_of("mail 4 2 0 1\nmail 4 5 0 1\nx"), 1)
        self.assertEqual(self.row_of("mail 4 2 0 1\nmail 4 2 0 1\nx"), 2)
        self.assertEqual(self.row_of("mail 4 2 0 1\nmail 4 2 0 1\nsync 4 5 0 1\n"), 2)
        self.assertEqual(self.row_of("".join(f"{name} 1 1 0 1\n" for name in "abcde") + "x"), 5)
        self.assertEqual(self.row_of("".join(f"{name} 12 1 0 1\n" for name in "abcd") + "d"), 4)

    def test_what_is_no_string(self):
        for value in [None, True, 0, 3, b"mail 4 2 0 1\n", [], ["mail 4 2 0 1\n"], ("mail 4 2 0 1\n",), {}, {"mail"},
                      Job(4), Timetable({"mail": Job(4)}), object(), str]:
            self.assertEqual(self.row_of(value), 0)


if __name__ == "__main__":
    unittest.main()
