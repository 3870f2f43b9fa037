"""An office as full as the document lets it be, and lines of 200 calls of the costliest kinds."""

import time
import unittest

from tests.slow_office import slow_answers
from tests.support import (adopt, ahead, ask, best, candidate, check, core, days, enter, flat, invigilator,
                           invigilators, lengths, open_office, paper, papers, put, room, seats, sitters, sitting,
                           table, where, would)

ROWS = (10,) * 6
# 2 ahead of 3 and so on are let; paper 1 is in no order.
ORDERS = [(p, q) for p in range(2, 7) for q in range(p + 1, 7)]


def full_office(written, rows=ROWS, ratio=1, guards_centre=40, orders=ORDERS):
    """written(who): the papers that candidate who is entered for."""
    calls = [open_office(4, ratio), *[sitting(day, 0, 600) for day in range(1, 6)], *[paper(300)] * 6]
    calls += [room(quiet, rows) for quiet in (0, 1, 0, 1)]
    calls += [candidate(who, 100 * (who % 3 == 0), 1 + who % 7) for who in range(1, 31)]
    calls += [enter(who, p) for who in range(1, 31) for p in written(who)]
    calls += [ahead(p, q) for p, q in orders]
    return calls + [invigilator(who, guards_centre + who) for who in range(1, 9)]


class Full(unittest.TestCase):
    def answered(self, calls, most_seconds=20):
        """The time is far above what is wanted."""
        self.assertLessEqual(len(calls), 200)
        self.assertLessEqual(len(flat(calls)), 6000)
        begun = time.perf_counter()
        found = ask(*calls)
        self.assertLess(time.perf_counter() - begun, most_seconds)
        return found

    def test_every_call_against_the_words(self):
        office = full_office(lambda who: [1 + who % 6], ratio=5)
        asked = [adopt(1, 1, 2, 3, 4, 5), *[seats(k) for k in range(1, 6)], *[invigilators(k) for k in range(1, 6)],
                 *[where(who, 1 + who % 5) for who in range(1, 31)], *[would(p, p % 6) for p in range(1, 7)],
                 *[put(p, (p + 2) % 6) for p in range(1, 7)], check(2, 1, 2, 3, 4, 5), check(1, 2, 3, 4, 5, 5),
                 table(), lengths(), papers(30), days(30), *[sitters(p) for p in range(1, 7)]]
        found = self.answered(office + asked)
        self.assertEqual(found, slow_answers(office + asked))
        self.assertEqual([answer for answer in found[:len(office) + 1] if answer[0]], [])

    def test_all_thirty_in_one_sitting(self):
        office = full_office(lambda who: [1 + who % 5], ratio=4, orders=[])
        asked = [adopt(3, 3, 3, 3, 3, 3), seats(3), invigilators(3), *[where(who, 3) for who in range(1, 31)]]
        found = self.answered(office + asked)
        self.assertEqual(found, slow_answers(office + asked))
        self.assertEqual(len(found[len(office) + 1]), 1 + 4 * 61)
        self.assertEqual(found[len(office) + 2][:2], [0, 1])
        self.assertEqual([answer for answer in found[-30:] if answer[1] == 0], [])

    def test_all_thirty_write_one_paper(self):
        office = full_office(lambda who: [1], ratio=30)
        asked = [put(1, 5), seats(5), invigilators(5)]
        found = self.answered(office + asked)
        plain = [who for who in range(1, 31) if who % 3]
        row = flat([who, 0] for who in plain)
        self.assertEqual(found[-2][:63], [0, 60, *row, *[0] * 20, 60])
        self.assertEqual(found[-1], [0, 1, 1, 1, 2, 2])

    def check_costly(self, office, made, how_many_best=0):
        """The line is filled up to 200 calls with those made, over and over; the first ones are held against the words."""
        asked = [best(), core(4), core(2)][:how_many_best]
        room_left = 200 - len(office) - len(asked)
        self.assertGreater(room_left, 40)
        calls = office + [made[n % len(made)] for n in range(room_left)] + asked
        found = self.answered(calls)
        self.assertEqual(found[:len(office) + len(made)], slow_answers(calls[:len(office) + len(made)]))
        for n in range(room_left - len(made)):
            self.assertEqual(found[len(office) + n], found[len(office) + n + len(made)])
        return found[len(office):]

    def test_two_hundred_of_seats_and_where(self):
        office = [*full_office(lambda who: [1 + who % 6], orders=[]), adopt(*[2] * 6)]
        self.check_costly(office, [seats(2), where(30, 2), where(29, 2), seats(1)], 3)

    def test_two_hundred_of_invigilators(self):
        office = [*full_office(lambda who: [1 + who % 6], ratio=4, orders=[]), adopt(*[2] * 6)]
        found = self.check_costly(office, [invigilators(2)], 3)
        self.assertEqual(found[0][:2], [0, 1])

    def test_two_hundred_of_invigilators_with_all_eight_short(self):
        # Three rooms want three each, and all eight may be in each: no smaller set is short.
        office = full_office(lambda who: [6] if who < 10 else [], rows=(1, 1, 1), orders=[])
        found = self.check_costly([*office, put(6, 2)], [invigilators(2)], 3)
        self.assertEqual(found[0], [0, 0, *range(1, 9)])

    def test_two_hundred_of_check_and_would_and_put(self):
        office = [*full_office(lambda who: [1 + who % 6]), adopt(1, 1, 2, 3, 4, 5)]
        made = [check(2, 1, 2, 3, 4, 5), would(1, 4), put(1, 3), adopt(1, 1, 2, 3, 4, 5), check(1, 1, 1, 1, 1, 1),
                put(2, 5), days(30), lengths()]
        self.check_costly(office, made, 3)

    def test_two_hundred_of_enter(self):
        office = [call for call in full_office(lambda who: []) if call[0] != 8] + [adopt(1, 1, 2, 3, 4, 5)]
        entries = [enter(who, p) for p in range(3, 7) for who in range(1, 31)]
        calls = (office + entries)[:200]
        self.assertEqual(self.answered(calls), slow_answers(calls))


if __name__ == "__main__":
    unittest.main()
