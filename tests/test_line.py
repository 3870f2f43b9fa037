"""The interface: one list in, one list out, nothing changed and nothing kept."""

import unittest

from sittingrooms.office import answers
from tests.support import (adopt, ahead, best, candidate, check, clashes, core, days, enter, flat, invigilator,
                           invigilators, lengths, open_office, paper, papers, put, room, seats, sitters, sitting,
                           table, time, where, withdraw, would)

LINE = flat([paper(), open_office(2, 15), sitting(1, 0, 90), sitting(1, 30, 90), sitting(2, 0, 120), paper(60),
             paper(90), room(0, [3, 4]), room(1, []), room(1, [2]), candidate(11, 0, 5), candidate(12, 50, 6),
             enter(11, 1), enter(12, 1), enter(11, 2), enter(11, 2), withdraw(12, 2), ahead(2, 1), invigilator(11, 5),
             time(12, 2), clashes(), best(), core(1), core(2), check(1, 1), check(2, 1), check(1), adopt(2, 1),
             adopt(1, 2), put(2, 0), put(2, 1), put(2, 3), seats(1), seats(2), seats(3), where(12, 2), where(11, 1),
             where(12, 1), invigilators(1), invigilator(13, 7), invigilators(2), table(), papers(11), papers(13),
             sitters(1), days(11), would(1, 0), would(1, 1), lengths()])
ANSWERED = flat([[1, -2], [1, 0], [2, 0, 1], [1, -8], [2, 0, 2], [2, 0, 1],
                 [2, 0, 2], [2, 0, 1], [1, -1], [2, 0, 2], [1, 0], [1, 0],
                 [1, 0], [1, 0], [1, 0], [1, -11], [1, -12], [1, 0], [1, 0],
                 [2, 0, 135], [4, 0, 1, 2, 1], [5, 0, 1, 2, 2, 1], [4, 0, 1, 1, 2], [2, 0, 0],
                 [5, 0, 0, 3, 1, 2], [3, 0, 1, 2], [1, -14], [1, 0],
                 [1, -10], [1, 0], [1, 0], [1, -5], [12, 0, 7, 11, 0, 0, 0, 0, 0, 0, 2, 0, 0],
                 [12, 0, 7, 11, 0, 0, 0, 0, 0, 0, 2, 12, 0], [1, -5], [4, 0, 2, 1, 1], [4, 0, 1, 1, 1],
                 [4, 0, 0, 0, 0], [2, 0, 0], [1, 0], [6, 0, 1, 1, 13, 2, 11], [3, 0, 2, 1], [5, 0, 1, 2, 2, 1], [1, -3],
                 [3, 0, 11, 12], [5, 0, 1, 1, 2, 1], [3, 0, 1, 1], [5, 0, 0, 3, 1, 2],
                 [7, 0, 60, 90, 2, 90, 90, 1]])


class Line(unittest.TestCase):
    def test_written_out(self):
        self.assertEqual(answers(list(LINE)), ANSWERED)

    def test_one_call(self):
        self.assertEqual(answers([0, 1, 1]), [1, 0])
        self.assertEqual(answers([11]), [1, -2])
        self.assertEqual(answers([10]), [1, -2])
        self.assertEqual(answers([3, 0, 0]), [1, -1])

    def test_handed_in_list_is_as_it_was(self):
        line = list(LINE)
        answers(line)
        self.assertEqual(line, LINE)

    def test_twice_alike(self):
        line = list(LINE)
        first = answers(line)
        again = answers(line)
        self.assertEqual(first, ANSWERED)
        self.assertEqual(again, ANSWERED)
        self.assertIsNot(first, again)

    def test_another_line_in_between(self):
        answers([0, 1, 1, 2, 300, 4, 11, 1, 0])
        self.assertEqual(answers(list(LINE)), ANSWERED)
        self.assertEqual(answers([2, 60]), [1, -2])

    def test_changing_what_is_given_back_changes_nothing(self):
        answers(list(LINE)).clear()
        self.assertEqual(answers(list(LINE)), ANSWERED)

    def test_whole_numbers_alone(self):
        found = answers(list(LINE))
        self.assertIs(type(found), list)
        self.assertEqual({type(number) for number in found}, {int})

    def test_two_hundred_calls(self):
        line = [0, 4, 30] + [2, 60] * 199
        self.assertEqual(answers(line), [1, 0] + flat([[2, 0, n] for n in range(1, 7)]) + [1, -7] * 193)


if __name__ == "__main__":
    unittest.main()
