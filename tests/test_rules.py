"""What wrong, right and seated mean, and the refusal -10 of enter and ahead.

No call puts a paper into a sitting yet, so the timetable kept is set by hand here.
"""

import unittest
from itertools import combinations_with_replacement

from sittingrooms.handlers import answer_call
from sittingrooms.rules import fit_into_rows, how_wrong
from sittingrooms.state import Office
from tests.reference import seats_found


def office_with(per_day=4, sittings=((1, 0, 60), (1, 60, 60), (2, 0, 60)), papers=(60, 60, 60), rooms=((0, [10]),),
                candidates=(), orders=()):
    """candidates: id, extra and papers entered for."""
    office = Office()
    tell(office, 0, per_day, 30)
    for day, beginning, minutes in sittings:
        tell(office, 1, day, beginning, minutes)
    for minutes in papers:
        tell(office, 2, minutes)
    for quiet, rows in rooms:
        tell(office, 3, quiet, rows)
    for who, extra, entered in candidates:
        tell(office, 4, who, 1, extra)
        for p in entered:
            tell(office, 5, who, p)
    for p, q in orders:
        tell(office, 7, p, q)
    return office


def tell(office, number, *told):
    answer = answer_call(office, number, list(told))
    assert answer[0] == 0, (number, told, answer)
    return answer


class Wrong(unittest.TestCase):
    def check(self, office, timetable, wanted):
        before = list(timetable)
        self.assertEqual(how_wrong(office, timetable), wanted)
        self.assertEqual(timetable, before)

    def test_right(self):
        office = office_with(candidates=[(9, 0, [1, 2]), (8, 0, [3])], orders=[(1, 2)])
        for timetable in ([0, 0, 0], [1, 2, 1], [1, 3, 3], [2, 3, 2], [0, 1, 1], [3, 0, 0]):
            self.check(office, timetable, [])

    def test_no_such_sitting(self):
        office = office_with()
        self.check(office, [3, 4, 5], [1, 2, 0])
        self.check(office, [5, 0, 4], [1, 1, 0])
        self.check(office, [0, 0, 3], [])

    def test_too_long(self):
        office = office_with(papers=(60, 61, 62), rooms=[(0, [10]), (1, [10])])
        self.check(office, [1, 1, 1], [2, 2, 0])
        self.check(office, [1, 0, 1], [2, 3, 0])
        tell(office, 4, 9, 1, 1)
        tell(office, 5, 9, 1)
        self.check(office, [1, 0, 1], [2, 1, 0])
        self.check(office, [1, 0, 4], [1, 3, 0])

    def test_too_long_for_its_own_sitting(self):
        office = office_with(sittings=[(1, 0, 30), (2, 0, 60), (3, 0, 90)], papers=(30, 60, 90))
        self.check(office, [1, 2, 3], [])
        self.check(office, [3, 3, 3], [])
        self.check(office, [1, 1, 2], [2, 2, 0])
        self.check(office, [1, 2, 2], [2, 3, 0])

    def test_two_at_once(self):
        office = office_with(candidates=[(9, 0, [2, 3]), (8, 0, [1, 3])])
        self.check(office, [1, 1, 1], [3, 1, 3])
        self.check(office, [2, 1, 1], [3, 2, 3])
        self.check(office, [1, 1, 2], [])
        self.check(office, [0, 0, 1], [])

    def test_out_of_order(self):
        office = office_with(orders=[(3, 1), (1, 2)])
        self.check(office, [1, 1, 1], [4, 3, 1])
        self.check(office, [2, 2, 1], [4, 1, 2])
        self.check(office, [2, 1, 1], [4, 1, 2])
        self.check(office, [2, 3, 1], [])
        self.check(office, [0, 1, 3], [])

    def test_crowded_day(self):
        sittings = [(4, 0, 60), (4, 60, 60), (7, 0, 60), (7, 60, 60)]
        office = office_with(1, sittings, papers=[60] * 4, candidates=[(9, 0, [1]), (8, 0, [1, 2, 3, 4]), (7, 0, [3, 4])])
        self.check(office, [1, 2, 3, 4], [5, 8, 4])
        self.check(office, [1, 3, 0, 4], [5, 8, 7])
        self.check(office, [1, 0, 3, 0], [])
        tell(office, 6, 8, 3)
        self.check(office, [1, 0, 3, 4], [5, 7, 7])

    def test_first_candidate_in_order_of_telling(self):
        office = office_with(1, candidates=[(9, 0, [1, 2]), (8, 0, [1, 2])])
        self.check(office, [1, 2, 0], [5, 9, 1])

    def test_not_seated(self):
        office = office_with(rooms=[(0, [1])], candidates=[(9, 0, [1]), (8, 0, [2]), (7, 0, [3])])
        self.check(office, [2, 2, 2], [6, 2, 0])
        self.check(office, [3, 1, 1], [6, 1, 0])
        self.check(office, [3, 1, 3], [6, 3, 0])
        self.check(office, [3, 2, 1], [])
        self.check(office, [0, 0, 1], [])

    def test_first_kind_comes_first(self):
        office = office_with(1, papers=(60, 60, 60), rooms=[(0, [1])], orders=[(3, 2)],
                             candidates=[(9, 0, [1, 2]), (8, 0, [3])])
        self.check(office, [1, 1, 4], [1, 3, 0])
        self.check(office, [1, 1, 1], [3, 1, 2])
        self.check(office, [1, 2, 2], [4, 3, 2])
        self.check(office, [1, 2, 1], [5, 9, 1])
        self.check(office, [1, 3, 1], [6, 1, 0])
        self.check(office, [1, 3, 2], [])


class Seated(unittest.TestCase):
    def test_against_trying_every_seat(self):
        asked = 0
        for how_many in range(4):
            for rows in combinations_with_replacement(range(1, 5), how_many):
                for counts in combinations_with_replacement(range(6), 3):
                    asked += 1
                    self.assertEqual(fit_into_rows(list(counts), list(rows)), seats_found(rows, counts, None),
                                     (rows, counts))
        self.assertGreater(asked, 1000)

    def test_one_long_row(self):
        for seats in range(1, 11):
            for counts in combinations_with_replacement(range(7), 2):
                self.assertEqual(fit_into_rows(list(counts), [seats]), seats_found((seats,), counts, None))

    def test_nobody(self):
        self.assertTrue(fit_into_rows([], []))
        self.assertTrue(fit_into_rows([0, 0], []))
        self.assertFalse(fit_into_rows([1], []))


class Kept(unittest.TestCase):
    """What no call answers yet."""

    def test_ratio(self):
        office = Office()
        tell(office, 0, 3, 17)
        self.assertEqual([office.per_day, office.ratio], [3, 17])

    def test_centres(self):
        office = office_with()
        tell(office, 4, 9, 41, 0)
        tell(office, 8, 9, 42)
        self.assertEqual([office.candidates[9].centre, office.invigilators[9]], [41, 42])

    def test_a_new_paper_is_not_put(self):
        self.assertEqual(office_with().timetable, [0, 0, 0])


class WouldBeWrong(unittest.TestCase):
    def check_refused(self, office, number, *told):
        before = self.shown(office)
        self.assertEqual(answer_call(office, number, list(told)), [-10])
        self.assertEqual(self.shown(office), before)

    def shown(self, office):
        entries = [(who, list(each.entered)) for who, each in office.candidates.items()]
        return (entries, list(office.orders), list(office.timetable))

    def test_enter_clash(self):
        office = office_with(candidates=[(9, 0, [1])])
        office.timetable = [1, 1, 2]
        self.check_refused(office, 5, 9, 2)
        tell(office, 5, 9, 3)

    def test_enter_again_comes_first(self):
        office = office_with(candidates=[(9, 0, [1, 2])])
        office.timetable = [1, 1, 0]
        self.assertEqual(answer_call(office, 5, [9, 2]), [-11])

    def test_enter_with_extra_time(self):
        office = office_with(rooms=[(0, [1]), (1, [1])], candidates=[(9, 1, []), (8, 0, [])])
        office.timetable = [1, 0, 0]
        self.check_refused(office, 5, 9, 1)
        tell(office, 5, 8, 1)
        tell(office, 5, 9, 2)

    def test_enter_too_many_a_day(self):
        office = office_with(1, candidates=[(9, 0, [1])])
        office.timetable = [1, 2, 3]
        self.check_refused(office, 5, 9, 2)
        tell(office, 5, 9, 3)

    def test_enter_without_a_seat(self):
        office = office_with(rooms=[(0, [2])], candidates=[(9, 0, [1]), (8, 0, [])])
        office.timetable = [1, 1, 0]
        self.check_refused(office, 5, 8, 1)
        tell(office, 5, 8, 2)

    def test_ahead(self):
        office = office_with()
        office.timetable = [1, 2, 1]
        self.check_refused(office, 7, 2, 1)
        self.check_refused(office, 7, 1, 3)
        tell(office, 7, 3, 2)
        tell(office, 7, 1, 2)

    def test_ahead_as_many_as_can_be_comes_first(self):
        office = office_with(papers=[60] * 6)
        for p, q in [(p, q) for p in range(1, 7) for q in range(p + 1, 7)][:10]:
            tell(office, 7, p, q)
        office.timetable = [1, 0, 0, 0, 0, 2]
        self.assertEqual(answer_call(office, 7, [6, 1]), [-7])

    def test_withdraw_is_never_wrong(self):
        office = office_with(candidates=[(9, 0, [1, 2])])
        office.timetable = [1, 2, 0]
        tell(office, 6, 9, 1)
        self.assertEqual(how_wrong(office, office.timetable), [])

    def test_new_paper_is_not_put(self):
        office = office_with(papers=[60] * 5)
        office.timetable = [1, 2, 3, 1, 2]
        tell(office, 2, 60)
        self.assertEqual(office.timetable, [1, 2, 3, 1, 2, 0])


if __name__ == "__main__":
    unittest.main()
