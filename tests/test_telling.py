"""Points 0 to 9: the calls that tell the office something, and time; their ranges, refusals and order."""

import unittest

from tests.support import (TOP_ID, ahead, ask, best, candidate, clashes, core, edges, enter, invigilator, last,
                           last_of_any, open_office, paper, room, sitting, time, withdraw)


class Ranges(unittest.TestCase):
    def check_edges(self, ahead_of_it, make, low, high):
        """make(value) is a call; low and high are let, one beyond each is not."""
        let, beyond = edges(ahead_of_it, make, low, high)
        self.assertEqual([answer[0] for answer in let], [0, 0])
        self.assertEqual(beyond, [[-1]] * 4)

    def test_open(self):
        self.check_edges([], lambda value: [0, value, 1], 1, 4)
        self.check_edges([], lambda value: [0, 1, value], 1, 30)

    def test_sitting(self):
        self.check_edges([open_office()], lambda value: [1, value, 0, 1], 1, 30)
        self.check_edges([open_office()], lambda value: [1, 1, value, 1], 0, 1439)
        self.check_edges([open_office()], lambda value: [1, 1, 0, value], 1, 600)

    def test_paper(self):
        self.check_edges([open_office()], lambda value: [2, value], 1, 300)

    def test_room(self):
        self.check_edges([open_office()], lambda value: [3, value, 1, 5], 0, 1)
        self.check_edges([open_office()], lambda value: [3, 0, 1, value], 1, 10)
        self.check_edges([open_office()], lambda value: [3, 0, 6, 1, 2, 3, 4, 5, value], 1, 10)
        self.check_edges([open_office()], lambda value: [3, 1, 6, value, 2, 3, 4, 5, 6], 1, 10)

    def test_room_rows(self):
        self.assertEqual(last(open_office(), room(0, [])), [-1])
        self.assertEqual(last(open_office(), room(0, [1])), [0, 1])
        self.assertEqual(last(open_office(), room(1, [10] * 6)), [0, 1])
        self.assertEqual(last(open_office(), room(1, [10] * 7)), [-1])

    def test_candidate(self):
        self.check_edges([open_office()], lambda value: [4, value, 1, 0], 1, TOP_ID)
        self.check_edges([open_office()], lambda value: [4, 1, value, 0], 1, TOP_ID)
        self.check_edges([open_office()], lambda value: [4, 1, 1, value], 0, 100)

    def six_papers(self):
        return [open_office(), candidate(1), candidate(TOP_ID)] + [paper()] * 6

    def test_enter(self):
        self.check_edges(self.six_papers(), lambda value: [5, value, 1], 1, TOP_ID)
        self.check_edges(self.six_papers(), lambda value: [5, 1, value], 1, 6)

    def test_withdraw(self):
        told = self.six_papers() + [enter(1, 1), enter(1, 6), enter(TOP_ID, 1)]
        self.check_edges(told, lambda value: [6, value, 1], 1, TOP_ID)
        self.check_edges(told, lambda value: [6, 1, value], 1, 6)

    def test_ahead(self):
        self.check_edges(self.six_papers(), lambda value: [7, value, 2], 1, 6)
        self.check_edges(self.six_papers(), lambda value: [7, 2, value], 1, 6)

    def test_invigilator(self):
        self.check_edges([open_office()], lambda value: [8, value, 1], 1, TOP_ID)
        self.check_edges([open_office()], lambda value: [8, 1, value], 1, TOP_ID)

    def test_time(self):
        self.check_edges(self.six_papers(), lambda value: [9, value, 1], 1, TOP_ID)
        self.check_edges(self.six_papers(), lambda value: [9, 1, value], 1, 6)

    def test_core(self):
        self.check_edges([open_office()], lambda value: [12, value], 0, 5)


class Open(unittest.TestCase):
    def test_answers(self):
        self.assertEqual(ask(open_office()), [[0]])

    def test_open_already(self):
        self.assertEqual(ask(open_office(), open_office()), [[0], [-6]])

    def test_range_comes_before_open_already(self):
        self.assertEqual(last(open_office(), open_office(5, 1)), [-1])

    def test_refused_open_leaves_it_shut(self):
        self.assertEqual(ask([0, 0, 1], paper(), open_office(), paper()), [[-1], [-2], [0], [0, 1]])

    def test_second_open_does_not_change_per_day(self):
        told = [paper(), paper(), sitting(1, 0), sitting(1, 60), room(), candidate(1), enter(1, 1), enter(1, 2)]
        self.assertEqual(last_of_any(open_office(1), open_office(4), *told, best()), [0, 0])
        self.assertEqual(last_of_any(open_office(4), open_office(1), *told, best()), [0, 1, 2, 1, 2])

    def test_all_others_want_it_open(self):
        calls = [sitting(), paper(), room(), candidate(1), enter(1, 1), withdraw(1, 1), ahead(1, 2),
                 invigilator(1), time(1, 1), clashes(), best(), core(0)]
        self.assertEqual(ask(*calls), [[-2]] * len(calls))

    def test_range_comes_before_not_open(self):
        calls = [sitting(0), paper(0), room(2), room(0, []), candidate(0), enter(0, 1), withdraw(1, 7),
                 ahead(0, 1), invigilator(0), time(1, 0), core(6)]
        self.assertEqual(ask(*calls), [[-1]] * len(calls))

    def test_refused_calls_while_shut_tell_nothing(self):
        found = ask(sitting(), paper(), room(), candidate(1), invigilator(1), open_office(),
                    sitting(), paper(), room(), candidate(1), invigilator(1))
        self.assertEqual(found, [[-2]] * 5 + [[0], [0, 1], [0, 1], [0, 1], [0], [0]])


class Sittings(unittest.TestCase):
    def test_numbers(self):
        found = ask(open_office(), *[sitting(day) for day in (1, 2, 3, 4, 5)])
        self.assertEqual(found[1:], [[0, 1], [0, 2], [0, 3], [0, 4], [0, 5]])

    def test_five_at_most(self):
        days = [sitting(day) for day in (1, 2, 3, 4, 5)]
        self.assertEqual(last(open_office(), *days, sitting(6)), [-7])

    def test_as_many_as_can_be_comes_before_too_early(self):
        days = [sitting(day) for day in (1, 2, 3, 4, 5)]
        self.assertEqual(last(open_office(), *days, sitting(1)), [-7])

    def test_range_comes_before_as_many_as_can_be(self):
        days = [sitting(day) for day in (1, 2, 3, 4, 5)]
        self.assertEqual(last(open_office(), *days, sitting(31)), [-1])

    def test_same_day_at_its_end(self):
        self.assertEqual(last(open_office(), sitting(3, 100, 50), sitting(3, 150, 1)), [0, 2])
        self.assertEqual(last(open_office(), sitting(3, 100, 50), sitting(3, 151, 1)), [0, 2])

    def test_same_day_too_early(self):
        self.assertEqual(last(open_office(), sitting(3, 100, 50), sitting(3, 149, 1)), [-8])
        self.assertEqual(last(open_office(), sitting(3, 100, 50), sitting(3, 0, 1)), [-8])
        self.assertEqual(last(open_office(), sitting(3, 100, 50), sitting(3, 100, 50)), [-8])

    def test_earlier_day(self):
        self.assertEqual(last(open_office(), sitting(3, 100, 50), sitting(2, 1439, 1)), [-8])

    def test_later_day_at_any_time(self):
        self.assertEqual(last(open_office(), sitting(3, 100, 50), sitting(4, 0, 1)), [0, 2])

    def test_beyond_its_day(self):
        late = sitting(1, 1439, 600)
        self.assertEqual(last(open_office(), late), [0, 1])
        self.assertEqual(last(open_office(), late, sitting(2, 0, 1)), [0, 2])
        self.assertEqual(last(open_office(), late, sitting(1, 1439, 1)), [-8])

    def test_first_may_begin_at_once(self):
        self.assertEqual(last(open_office(), sitting(1, 0, 1)), [0, 1])

    def test_refusal_changes_nothing(self):
        found = ask(open_office(), sitting(3, 100, 50), sitting(2, 0, 600), sitting(31, 0, 1), sitting(3, 150, 1))
        self.assertEqual(found[1:], [[0, 1], [-8], [-1], [0, 2]])

    def test_the_last_one_told_counts(self):
        found = ask(open_office(), sitting(3, 500, 50), sitting(4, 0, 10), sitting(4, 10, 10), sitting(3, 600, 1))
        self.assertEqual(found[1:], [[0, 1], [0, 2], [0, 3], [-8]])


class PapersAndRooms(unittest.TestCase):
    def test_paper_numbers_and_one_more(self):
        found = ask(open_office(), *[paper(minutes) for minutes in range(1, 9)])
        self.assertEqual(found[1:], [[0, n] for n in range(1, 7)] + [[-7], [-7]])

    def test_refused_paper_is_not_there(self):
        self.assertEqual(ask(open_office(), paper(0), paper(301), paper(1))[1:], [[-1], [-1], [0, 1]])
        self.assertEqual(last(open_office(), *[paper()] * 6, paper(301)), [-1])

    def test_paper_keeps_its_minutes(self):
        papers = [paper(minutes) for minutes in (10, 20, 30, 40, 50, 300)]
        found = ask(open_office(), *papers, candidate(1), *[time(1, p) for p in range(1, 7)])
        self.assertEqual(found[-6:], [[0, 10], [0, 20], [0, 30], [0, 40], [0, 50], [0, 300]])

    def test_paper_is_not_put(self):
        # Were it put somewhere, the entry of two papers in one sitting would be refused.
        found = ask(open_office(1), sitting(), paper(), paper(), candidate(1), enter(1, 1), enter(1, 2), ahead(2, 1))
        self.assertEqual(found[-3:], [[0], [0], [0]])

    def test_room_numbers_and_one_more(self):
        found = ask(open_office(), room(0, [1]), room(1, [10]), room(0, [1, 2, 3]), room(1, [5] * 6), room(), room(1))
        self.assertEqual(found[1:], [[0, 1], [0, 2], [0, 3], [0, 4], [-7], [-7]])

    def test_refused_room_is_not_there(self):
        found = ask(open_office(), room(2), room(0, []), room(0, [0]), room(0, [11]), room(0, [5, 11]), room())
        self.assertEqual(found[1:], [[-1]] * 5 + [[0, 1]])
        told = [sitting(), paper(), candidate(1), enter(1, 1)]
        self.assertEqual(last_of_any(open_office(), *told, room(0, [5, 11]), room(2, [5]), best()), [0, 0])

    def test_range_comes_before_as_many_as_can_be(self):
        self.assertEqual(last(open_office(), *[room()] * 4, room(0, [])), [-1])

    def test_calls_behind_a_list_are_read_rightly(self):
        for rows in ([], [7], [1, 2], [1, 2, 3, 4, 5, 6]):
            found = ask(open_office(), room(0, rows), paper(), sitting())
            self.assertEqual(found[2:], [[0, 1], [0, 1]])


class CandidatesAndInvigilators(unittest.TestCase):
    def test_thirty_candidates_and_one_more(self):
        found = ask(open_office(), *[candidate(who) for who in range(101, 132)])
        self.assertEqual(found[1:], [[0]] * 30 + [[-7]])

    def test_id_taken(self):
        self.assertEqual(last(open_office(), candidate(5), candidate(6), candidate(5, 10, 7)), [-9])

    def test_id_taken_comes_before_as_many_as_can_be(self):
        thirty = [candidate(who) for who in range(1, 31)]
        self.assertEqual(last(open_office(), *thirty, candidate(30)), [-9])
        self.assertEqual(last(open_office(), *thirty, candidate(31)), [-7])
        self.assertEqual(last(open_office(), *thirty, candidate(30, 101)), [-1])

    def test_refused_candidate_changes_nothing(self):
        found = ask(open_office(), paper(100), candidate(5, 10), candidate(5, 50), time(5, 1),
                    candidate(6, 101), time(6, 1))
        self.assertEqual(found[3:], [[-9], [0, 110], [-1], [-3]])
        thirty = [candidate(who) for who in range(1, 31)]
        self.assertEqual(last_of_any(open_office(), paper(), *thirty, candidate(31), time(31, 1)), [-3])

    def test_entered_for_nothing(self):
        self.assertEqual(last(open_office(), paper(), candidate(1), withdraw(1, 1)), [-12])

    def test_eight_invigilators_and_one_more(self):
        found = ask(open_office(), *[invigilator(who) for who in range(1, 10)])
        self.assertEqual(found[1:], [[0]] * 8 + [[-7]])

    def test_invigilator_id_taken(self):
        self.assertEqual(last(open_office(), invigilator(5, 1), invigilator(5, 2)), [-9])
        eight = [invigilator(who) for who in range(1, 9)]
        self.assertEqual(last(open_office(), *eight, invigilator(8)), [-9])
        self.assertEqual(last(open_office(), *eight, invigilator(8, 0)), [-1])

    def test_refused_invigilator_changes_nothing(self):
        found = ask(open_office(), invigilator(5, 0), invigilator(5), invigilator(5), invigilator(6))
        self.assertEqual(found[1:], [[-1], [0], [-9], [0]])

    def test_candidate_and_invigilator_may_have_one_id(self):
        self.assertEqual(ask(open_office(), candidate(5), invigilator(5))[1:], [[0], [0]])
        self.assertEqual(ask(open_office(), invigilator(5), candidate(5))[1:], [[0], [0]])

    def test_invigilator_is_no_candidate(self):
        self.assertEqual(last(open_office(), paper(), invigilator(5), time(5, 1)), [-3])


class EntersAndWithdraws(unittest.TestCase):
    def test_enter_and_withdraw(self):
        found = ask(open_office(), paper(), candidate(7), enter(7, 1), enter(7, 1), withdraw(7, 1), withdraw(7, 1),
                    enter(7, 1))
        self.assertEqual(found[3:], [[0], [-11], [0], [-12], [0]])

    def test_refusals_in_order(self):
        for make, none in ((enter, None), (withdraw, -12), (time, None)):
            told = [open_office(), paper(), candidate(7)]
            self.assertEqual(last(*told, make(0, 2)), [-1])
            self.assertEqual(last(*told, make(8, 7)), [-1])
            self.assertEqual(last(*told, make(8, 2)), [-3])
            self.assertEqual(last(*told, make(8, 1)), [-3])
            self.assertEqual(last(*told, make(7, 2)), [-4])
            if none:
                self.assertEqual(last(*told, make(7, 1)), [none])

    def test_no_paper_at_all(self):
        self.assertEqual(last(open_office(), candidate(7), enter(7, 1)), [-4])
        self.assertEqual(last(open_office(), candidate(7), withdraw(7, 1)), [-4])
        self.assertEqual(last(open_office(), candidate(7), time(7, 1)), [-4])

    def test_withdraw_takes_just_this_paper_of_just_this_one(self):
        told = [open_office()] + [paper()] * 3 + [candidate(1), candidate(2)]
        entries = [enter(who, p) for who in (1, 2) for p in (3, 1, 2)]
        found = last(*told, *entries, withdraw(1, 2), clashes())
        self.assertEqual(found, [0, 1, 2, 1, 1, 3, 2, 2, 3, 1])

    def test_refused_entry_is_not_there(self):
        told = [open_office(), paper(), paper(), candidate(1), enter(1, 1)]
        self.assertEqual(last_of_any(*told, enter(1, 3), enter(2, 2), enter(1, 7), clashes()), [0])

    def test_refused_withdrawal_takes_nothing(self):
        told = [open_office(), paper(), paper(), candidate(1), candidate(2), enter(1, 1), enter(1, 2)]
        self.assertEqual(last_of_any(*told, withdraw(2, 1), withdraw(3, 1), withdraw(1, 3), clashes()), [0, 1, 2, 1])

    def test_entered_for_all_six(self):
        found = ask(open_office(1), *[paper()] * 6, candidate(1), *[enter(1, p) for p in (6, 5, 4, 3, 2, 1)])
        self.assertEqual(found[-6:], [[0]] * 6)


class Ahead(unittest.TestCase):
    def test_told(self):
        self.assertEqual(last(open_office(), paper(), paper(), ahead(2, 1)), [0])

    def test_no_such_paper_either_way(self):
        self.assertEqual(last(open_office(), paper(), ahead(1, 2)), [-4])
        self.assertEqual(last(open_office(), paper(), ahead(2, 1)), [-4])
        self.assertEqual(last(open_office(), ahead(1, 2)), [-4])

    def test_no_such_paper_comes_before_itself(self):
        self.assertEqual(last(open_office(), paper(), ahead(2, 2)), [-4])
        self.assertEqual(last(open_office(), paper(), ahead(7, 7)), [-1])

    def test_itself(self):
        self.assertEqual(last(open_office(), paper(), paper(), ahead(2, 2)), [-13])

    def test_told_already(self):
        told = [open_office(), paper(), paper()]
        self.assertEqual(last(*told, ahead(1, 2), ahead(1, 2)), [-11])
        self.assertEqual(last(*told, ahead(1, 2), ahead(2, 1)), [0])

    def test_ten_at_most(self):
        pairs = [(p, q) for p in range(1, 7) for q in range(p + 1, 7)][:11]
        told = [open_office()] + [paper()] * 6
        found = ask(*told, *[ahead(p, q) for p, q in pairs])
        self.assertEqual(found[7:], [[0]] * 10 + [[-7]])
        ten = told + [ahead(p, q) for p, q in pairs[:10]]
        self.assertEqual(last(*ten, ahead(*pairs[9])), [-11])
        self.assertEqual(last(*ten, ahead(3, 3)), [-13])
        self.assertEqual(last(*ten, ahead(0, 3)), [-1])

    def test_no_such_paper_comes_before_as_many_as_can_be(self):
        five = [open_office()] + [paper()] * 5
        pairs = [(p, q) for p in range(1, 6) for q in range(p + 1, 6)]
        self.assertEqual(len(pairs), 10)
        self.assertEqual(last(*five, *[ahead(p, q) for p, q in pairs], ahead(6, 1)), [-4])

    def test_refused_order_is_not_there(self):
        told = [open_office(), sitting(), paper(), paper()]
        self.assertEqual(last_of_any(*told, ahead(1, 1), ahead(1, 3), ahead(0, 1), best()), [0, 1, 1, 1, 1])
        pairs = [(p, q) for p in range(1, 7) for q in range(p + 1, 7)][:10]
        days = [sitting(day) for day in range(1, 6)]
        full = [open_office(), *days] + [paper()] * 6 + [ahead(p, q) for p, q in pairs]
        self.assertEqual(last_of_any(*full, ahead(6, 1), best()), last(*full, best()))


class Time(unittest.TestCase):
    def check_time(self, minutes, extra, answer):
        self.assertEqual(last(open_office(), paper(minutes), candidate(7, extra), time(7, 1)), [0, answer])

    def test_without_extra(self):
        self.check_time(60, 0, 60)

    def test_even_part(self):
        self.check_time(60, 25, 75)
        self.check_time(300, 100, 600)

    def test_part_is_rounded_up(self):
        self.check_time(1, 1, 2)
        self.check_time(1, 100, 2)
        self.check_time(61, 25, 77)
        self.check_time(101, 1, 103)
        self.check_time(100, 1, 101)
        self.check_time(99, 1, 100)
        self.check_time(299, 99, 299 + 297)
        self.check_time(3, 33, 4)
        self.check_time(3, 34, 5)

    def test_every_time(self):
        for extra in (0, 1, 7, 50, 99, 100):
            for minutes in (1, 2, 33, 99, 100, 101, 250, 299, 300):
                part = 0
                while part * 100 < minutes * extra:
                    part += 1
                self.check_time(minutes, extra, minutes + part)

    def test_entered_or_not(self):
        told = [open_office(), paper(50), candidate(7, 10)]
        self.assertEqual(last(*told, time(7, 1)), [0, 55])
        self.assertEqual(last(*told, enter(7, 1), time(7, 1)), [0, 55])

    def test_of_this_one_and_this_paper(self):
        told = [open_office(), paper(50), paper(80), candidate(7, 10), candidate(8, 20)]
        found = ask(*told, time(7, 1), time(8, 1), time(7, 2), time(8, 2))
        self.assertEqual(found[5:], [[0, 55], [0, 60], [0, 88], [0, 96]])


if __name__ == "__main__":
    unittest.main()
