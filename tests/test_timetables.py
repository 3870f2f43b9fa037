"""Points 13, 14, 15, 19 and 23: check, adopt, put, table and would."""

import unittest

from tests.support import (HUGE, adopt, ahead, ask, candidate, check, edges, enter, entered, last, last_of_any,
                           open_office, paper, put, room, sitting, table, withdraw, would)

# Two sittings on day 1, one each on days 2 and 3.
SITTINGS = [sitting(1, 0), sitting(1, 60), sitting(2, 0), sitting(3, 0)]
WIDE = [open_office(), *SITTINGS, *[paper()] * 3, room(0, [10]), room(1, [10])]
FULL = [open_office(), *[sitting(day) for day in range(1, 6)], *[paper()] * 6]


class Ranges(unittest.TestCase):
    def check_edges(self, make, low, high, told=FULL):
        let, beyond = edges(told, make, low, high)
        self.assertEqual([answer[0] for answer in let], [0, 0])
        self.assertEqual(beyond, [[-1]] * 4)

    def test_numbers_of_a_timetable(self):
        for make in (check, adopt):
            self.check_edges(lambda value: make(value, 0, 0, 0, 0, 0), 0, 5)
            self.check_edges(lambda value: make(1, 2, 0, 3, 4, value), 0, 5)
            self.check_edges(lambda value: make(0, 0, 0, value, 0, 0), 0, 5)

    def test_put_and_would(self):
        for make in (put, would):
            self.check_edges(lambda value: make(value, 1), 1, 6)
            self.check_edges(lambda value: make(1, value), 0, 5)

    def test_lists_of_0_and_6_numbers(self):
        none = [open_office(), *SITTINGS]
        self.assertEqual(last(*none, check()), [0, 1, 0])
        self.assertEqual(last(*none, adopt()), [0])
        self.assertEqual(last(*FULL, check(1, 2, 3, 4, 5, 5)), [0, 1, 5])
        self.assertEqual(last(*FULL, adopt(1, 2, 3, 4, 5, 5)), [0])
        for make in (check, adopt):
            self.assertEqual(last(*FULL, make(*[0] * 7)), [-1])

    def test_not_open(self):
        calls = [check(), check(1), adopt(), adopt(0, 0), put(1, 0), put(6, 5), table(), would(1, 1), would(6, 0)]
        self.assertEqual(ask(*calls), [[-2]] * len(calls))

    def test_range_comes_before_not_open(self):
        calls = [check(6), adopt(0, -1), put(0, 1), put(7, 1), put(1, 6), put(1, -1), would(0, 0), would(1, 6),
                 check(0, HUGE, 0), adopt(-HUGE)]
        self.assertEqual(ask(*calls), [[-1]] * len(calls))

    def test_calls_behind_a_list_are_read_rightly(self):
        rows = (([], -14), ([1], -14), ([7, 2], -1), ([5, 2, 0, 1, 1], -14), ([0] * 6, -14), ([-1] * 6, -1))
        for row, refusal in rows:
            found = ask(*WIDE, check(*row), put(2, 4), adopt(*row), table())
            self.assertEqual(found[-4:], [[refusal], [0], [refusal], [0, 0, 4, 0]])


class NotOneEach(unittest.TestCase):
    def test_shorter_and_longer(self):
        for make, right in ((check, [0, 1, 0]), (adopt, [0])):
            for size in range(7):
                self.assertEqual(last(*WIDE, make(*[0] * size)), right if size == 3 else [-14])

    def test_no_papers(self):
        for make in (check, adopt):
            self.assertEqual(last(open_office(), *SITTINGS, make(1)), [-14])

    def test_range_comes_before_it(self):
        for make in (check, adopt):
            self.assertEqual(last(*WIDE, make(1, 6)), [-1])
            self.assertEqual(last(*WIDE, make(0, 0, 0, -1)), [-1])

    def test_it_comes_before_wrong(self):
        self.assertEqual(last(*WIDE, adopt(5, 5)), [-14])
        self.assertEqual(last(*WIDE, adopt(5, 5, 5, 5)), [-14])
        self.assertEqual(last(*WIDE, check(5, 5)), [-14])

    def test_a_paper_told_later_wants_its_number(self):
        found = ask(*WIDE, adopt(1, 2, 3), paper(), check(1, 2, 3), check(1, 2, 3, 0), adopt(1, 2, 3), table())
        self.assertEqual(found[-4:], [[-14], [0, 1, 3], [-14], [0, 1, 2, 3, 0]])


class Asked:
    """The same timetables asked of check and of would; put and adopt must be of the same mind."""

    def check_all(self, told, timetable, wanted):
        self.assertEqual(last(*told, check(*timetable)), wanted, timetable)
        right = wanted[1] == 1
        self.assertEqual(last(*told, adopt(*timetable)), [0] if right else [-10])
        found = last_of_any(*told, adopt(*timetable), table())
        self.assertEqual(found, [0, *timetable] if right else [0] + [0] * len(timetable))

    def check_last_put(self, told, timetable, p, wanted):
        """All papers but p are put and right so; then p."""
        others = [0 if q == p else k for q, k in enumerate(timetable, start=1)]
        ready = [*told, adopt(*others)]
        self.assertEqual(last(*ready, would(p, timetable[p - 1])), wanted)
        self.assertEqual(last(*ready, would(p, timetable[p - 1]), table()), [0, *others])
        right = wanted[1] == 1
        self.assertEqual(last(*ready, put(p, timetable[p - 1])), [0] if right else [-10])
        self.assertEqual(last_of_any(*ready, put(p, timetable[p - 1]), table()), [0, *(timetable if right else others)])


class Right(Asked, unittest.TestCase):
    def test_how_many_sittings_it_uses(self):
        told = [*WIDE, *entered([1], [2], [3])]
        for timetable, used in (([0, 0, 0], 0), ([1, 0, 0], 1), ([4, 4, 4], 1), ([1, 2, 1], 2), ([4, 0, 2], 2),
                                ([3, 2, 1], 3), ([0, 0, 3], 1)):
            self.check_all(told, timetable, [0, 1, used])

    def test_no_papers(self):
        self.check_all([open_office()], [], [0, 1, 0])
        self.check_all([open_office(), *SITTINGS, room(), candidate(1)], [], [0, 1, 0])

    def test_nobody_entered(self):
        self.check_all([open_office(1), sitting(), *[paper()] * 6], [1] * 6, [0, 1, 1])

    def test_would(self):
        told = [*WIDE, *entered([1], [2], [3]), adopt(1, 2, 0)]
        wanted = {(1, 0): 1, (1, 1): 2, (1, 2): 1, (1, 3): 2, (2, 0): 1, (2, 1): 1, (3, 0): 2, (3, 1): 2, (3, 3): 3}
        for (p, k), used in wanted.items():
            self.assertEqual(last(*told, would(p, k)), [0, 1, used], (p, k))


class Wrong(Asked, unittest.TestCase):
    def test_1_no_such_sitting(self):
        self.check_all(WIDE, [5, 0, 0], [0, 0, 1, 1, 0])
        self.check_all(WIDE, [4, 0, 5], [0, 0, 1, 3, 0])
        self.check_all(WIDE, [0, 5, 5], [0, 0, 1, 2, 0])
        self.check_all([open_office(), paper()], [1], [0, 0, 1, 1, 0])
        self.check_all([open_office(), paper()], [0], [0, 1, 0])

    def test_2_too_long(self):
        told = [open_office(), sitting(1, 0, 60), sitting(2, 0, 61), sitting(3, 0, 66), paper(60), paper(61), paper(50),
                room(0), room(1), candidate(1, 10), candidate(2, 9)]
        self.check_all(told, [1, 2, 1], [0, 1, 2])
        self.check_all(told, [0, 1, 1], [0, 0, 2, 2, 0])
        self.check_last_put(told, [1, 1, 1], 2, [0, 0, 2, 2, 0])
        with_extra = [*told, enter(1, 1), enter(2, 1)]
        self.check_all(with_extra, [1, 1, 1], [0, 0, 2, 1, 0])
        self.check_all(with_extra, [2, 1, 1], [0, 0, 2, 1, 0])
        self.check_all(with_extra, [3, 1, 1], [0, 0, 2, 2, 0])
        self.check_all(with_extra, [3, 3, 1], [0, 1, 2])
        self.check_all([*with_extra, withdraw(1, 1)], [3, 2, 1], [0, 1, 3])

    def test_3_two_at_once(self):
        told = [*WIDE, *entered([2, 3], [1, 3])]
        self.check_all(told, [1, 1, 1], [0, 0, 3, 1, 3])
        self.check_all(told, [2, 1, 1], [0, 0, 3, 2, 3])
        self.check_last_put(told, [2, 1, 1], 3, [0, 0, 3, 2, 3])
        self.check_last_put(told, [4, 1, 4], 1, [0, 0, 3, 1, 3])
        self.check_all(told, [1, 1, 3], [0, 1, 2])
        self.check_all(told, [0, 0, 1], [0, 1, 1])

    def test_3_the_first_p_then_the_first_q(self):
        told = [open_office(), *SITTINGS, *[paper()] * 4, room()]
        self.check_all([*told, *entered([2, 3], [1, 4])], [1, 1, 1, 1], [0, 0, 3, 1, 4])
        self.check_all([*told, *entered([1, 4], [1, 3])], [1, 1, 1, 1], [0, 0, 3, 1, 3])
        self.check_all([*told, *entered([1, 4], [2, 3])], [1, 2, 2, 0], [0, 0, 3, 2, 3])

    def test_4_out_of_order(self):
        told = [*WIDE, ahead(3, 1), ahead(1, 2)]
        self.check_all(told, [1, 1, 1], [0, 0, 4, 3, 1])
        self.check_all(told, [2, 2, 1], [0, 0, 4, 1, 2])
        self.check_all(told, [3, 2, 1], [0, 0, 4, 1, 2])
        self.check_all(told, [1, 2, 3], [0, 0, 4, 3, 1])
        self.check_last_put(told, [2, 2, 1], 2, [0, 0, 4, 1, 2])
        self.check_all(told, [2, 3, 1], [0, 1, 3])
        self.check_all(told, [0, 1, 4], [0, 1, 2])

    def test_4_a_ring_with_one_paper_out(self):
        told = [*WIDE, ahead(1, 2), ahead(2, 3), ahead(3, 1)]
        self.check_all(told, [1, 2, 0], [0, 1, 2])
        self.check_last_put(told, [1, 2, 3], 3, [0, 0, 4, 3, 1])
        self.check_last_put(told, [2, 3, 1], 3, [0, 0, 4, 2, 3])

    def test_5_crowded_day(self):
        told = [open_office(1), *SITTINGS, sitting(3, 60), *[paper()] * 4, room()]
        people = [candidate(9), candidate(8), candidate(7)]
        entries = [enter(9, 1), *[enter(8, p) for p in (1, 2, 3, 4)], enter(7, 3), enter(7, 4)]
        self.check_all([*told, *people, *entries], [1, 2, 4, 5], [0, 0, 5, 8, 1])
        self.check_all([*told, *people, *entries], [1, 3, 4, 5], [0, 0, 5, 8, 3])
        self.check_all([*told, *people, *entries, withdraw(8, 3)], [1, 3, 4, 5], [0, 0, 5, 7, 3])
        self.check_last_put([*told, *people, *entries, withdraw(8, 3)], [1, 3, 4, 5], 4, [0, 0, 5, 7, 3])
        self.check_all([*told, *people, *entries], [1, 3, 4, 0], [0, 1, 3])

    def test_5_each_number_a_day(self):
        hours = [sitting(7, 60 * n) for n in range(5)]
        for per_day in range(1, 5):
            told = [open_office(per_day), *hours, *[paper()] * 5, room(), *entered([1, 2, 3, 4, 5])]
            first = [p if p <= per_day else 0 for p in range(1, 6)]
            self.check_all(told, first, [0, 1, per_day])
            self.check_all(told, [1, 2, 3, 4, 5], [0, 0, 5, 1, 7])

    def test_5_first_candidate_as_told_not_by_id(self):
        told = [open_office(1), *SITTINGS, paper(), paper(), room(), candidate(9), candidate(8)]
        self.check_all([*told, *[enter(who, p) for who in (8, 9) for p in (1, 2)]], [1, 2], [0, 0, 5, 9, 1])

    def test_6_not_seated(self):
        told = [open_office(), *SITTINGS, *[paper()] * 3, room(0, [1]), *entered([1], [2], [3])]
        self.check_all(told, [2, 2, 2], [0, 0, 6, 2, 0])
        self.check_all(told, [3, 1, 1], [0, 0, 6, 1, 0])
        self.check_all(told, [3, 1, 3], [0, 0, 6, 3, 0])
        self.check_last_put(told, [3, 1, 3], 1, [0, 0, 6, 3, 0])
        self.check_all(told, [3, 2, 1], [0, 1, 3])

    def test_6_beside_one_another(self):
        told = [open_office(), *SITTINGS, *[paper()] * 2, room(0, [4]), *entered([1], [1], [2])]
        self.check_all(told, [1, 1], [0, 1, 1])
        self.check_all([*told, candidate(4), enter(4, 1)], [1, 0], [0, 0, 6, 1, 0])
        self.check_all([*told, candidate(4), enter(4, 2)], [1, 1], [0, 1, 1])

    def test_6_quiet_rooms_alone(self):
        told = [open_office(), sitting(1, 0, 120), paper(), room(0, [10]), candidate(1, 1), enter(1, 1)]
        self.check_all(told, [1], [0, 0, 6, 1, 0])
        self.check_all([*told, room(1, [1])], [1], [0, 1, 1])

    def test_6_no_rooms(self):
        told = [open_office(), sitting(), paper(), paper(), *entered([2])]
        self.check_all(told, [1, 0], [0, 1, 1])
        self.check_all(told, [1, 1], [0, 0, 6, 1, 0])

    def test_the_first_way_of_several(self):
        told = [open_office(1), *SITTINGS, paper(61), *[paper()] * 4, room(0, [1]), ahead(4, 3),
                *entered([2, 3], [4], [5])]
        self.check_all(told, [1, 1, 1, 1, 5], [0, 0, 1, 5, 0])
        self.check_all(told, [1, 1, 1, 1, 1], [0, 0, 2, 1, 0])
        self.check_all(told, [0, 1, 1, 1, 1], [0, 0, 3, 2, 3])
        self.check_all(told, [0, 1, 2, 2, 2], [0, 0, 4, 4, 3])
        self.check_all(told, [0, 1, 2, 1, 1], [0, 0, 5, 1, 1])
        self.check_all(told, [0, 1, 3, 1, 1], [0, 0, 6, 1, 0])
        self.check_all(told, [0, 3, 4, 1, 2], [0, 1, 4])


class Adopt(unittest.TestCase):
    def test_kept_from_now_on(self):
        found = ask(*WIDE, table(), adopt(1, 2, 0), table(), adopt(0, 0, 4), table(), adopt(0, 0, 0), table())
        self.assertEqual(found[-7:], [[0, 0, 0, 0], [0], [0, 1, 2, 0], [0], [0, 0, 0, 4], [0], [0, 0, 0, 0]])

    def test_refused_keeps_the_old_one(self):
        refused = [adopt(1, 1, 5), adopt(1, 1), adopt(0, 0, 6), adopt(2, 2, 2)]
        found = ask(*WIDE, *entered([1, 2]), adopt(1, 2, 4), *refused, table())
        self.assertEqual(found[-6:], [[0], [-10], [-14], [-1], [-10], [0, 1, 2, 4]])


class Put(unittest.TestCase):
    def test_puts_just_this_paper(self):
        found = ask(*WIDE, put(2, 3), table(), put(1, 1), table(), put(2, 4), table(), put(2, 4), table())
        self.assertEqual(found[-7:], [[0, 0, 3, 0], [0], [0, 1, 3, 0], [0], [0, 1, 4, 0], [0], [0, 1, 4, 0]])

    def test_0_takes_it_out(self):
        found = ask(*WIDE, adopt(1, 2, 3), put(2, 0), table(), put(2, 0), table(), put(1, 0), put(3, 0), table())
        self.assertEqual(found[-7:], [[0], [0, 1, 0, 3], [0], [0, 1, 0, 3], [0], [0], [0, 0, 0, 0]])

    def test_0_without_sittings(self):
        self.assertEqual(last(open_office(), paper(), put(1, 0)), [0])
        self.assertEqual(last(open_office(), paper(), would(1, 0)), [0, 1, 0])

    def test_refusals_in_order(self):
        for make in (put, would):
            self.assertEqual(last(*WIDE, make(7, 5)), [-1])
            self.assertEqual(last(*WIDE, make(4, 6)), [-1])
            self.assertEqual(last(*WIDE, make(4, 5)), [-4])
            self.assertEqual(last(*WIDE, make(4, 0)), [-4])
            self.assertEqual(last(*WIDE, make(3, 5)), [-5])
            self.assertEqual(last(open_office(), paper(), make(1, 1)), [-5])
            self.assertEqual(last(open_office(), sitting(), make(1, 1)), [-4])
            self.assertEqual(last(open_office(), make(1, 1)), [-4])

    def test_wrong_comes_last(self):
        told = [*WIDE, *entered([1, 2]), put(1, 1)]
        self.assertEqual(last(*told, put(2, 1)), [-10])
        self.assertEqual(last(*told, put(2, 5)), [-5])

    def test_refusal_changes_nothing(self):
        told = [*WIDE, *entered([1, 2]), adopt(1, 2, 3)]
        found = ask(*told, put(2, 1), put(4, 1), put(3, 5), put(0, 1), put(1, 6), table())
        self.assertEqual(found[-6:], [[-10], [-4], [-5], [-1], [-1], [0, 1, 2, 3]])

    def test_a_move_is_not_held_against_where_it_was(self):
        told = [open_office(1), *SITTINGS, paper(), paper(), room(), *entered([1, 2]), ahead(1, 2), adopt(1, 3)]
        self.assertEqual(ask(*told, put(2, 2), put(2, 4), put(1, 2), put(2, 3), table())[-5:],
                         [[-10], [0], [0], [0], [0, 2, 3]])


class ChangesNothing(unittest.TestCase):
    def test_check_and_would(self):
        told = [*WIDE, *entered([1, 2]), adopt(1, 2, 3)]
        asked = [check(0, 0, 0), check(4, 3, 2), check(1, 1, 1), check(5, 5, 5), check(1), would(1, 0), would(1, 4),
                 would(1, 2), would(4, 1), would(1, 5), would(3, 0)]
        for call in asked:
            self.assertEqual(last_of_any(*told, call, table()), [0, 1, 2, 3], call)

    def test_would_is_as_check_would_say(self):
        told = [open_office(1), *SITTINGS, *[paper()] * 3, room(0, [2]), *entered([1, 2], [3], [3]), ahead(2, 3)]
        kept = [1, 3, 0]
        for p in range(1, 4):
            for k in range(5):
                after = list(kept)
                after[p - 1] = k
                found = ask(*told, adopt(*kept), would(p, k), check(*after), put(p, k))
                self.assertEqual(found[-3], found[-2])
                self.assertEqual(found[-1], [0] if found[-2][1] == 1 else [-10])


class Table(unittest.TestCase):
    def test_nothing_there(self):
        self.assertEqual(last(open_office(), table()), [0])
        self.assertEqual(last(open_office(), *SITTINGS, table()), [0])

    def test_new_papers_are_not_put(self):
        self.assertEqual(last(*FULL, table()), [0] + [0] * 6)
        found = ask(open_office(), *SITTINGS, paper(), put(1, 3), paper(), table(), put(2, 1), paper(), table())
        self.assertEqual([found[-4], found[-1]], [[0, 3, 0], [0, 3, 1, 0]])

    def test_full(self):
        self.assertEqual(last(*FULL, adopt(5, 4, 3, 2, 1, 5), table()), [0, 5, 4, 3, 2, 1, 5])


if __name__ == "__main__":
    unittest.main()
