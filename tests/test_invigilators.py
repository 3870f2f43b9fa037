"""Point 18: invigilators."""

import random
import unittest

from tests.drawn import drawn_office
from tests.slow_office import SlowOffice, slow_answers, subsets
from tests.support import (adopt, ask, candidate, edges, enter, flat, invigilator, invigilators, last, open_office,
                           paper, put, room, seats, sitting, table)


def told(ratio, rooms, centres, guards, kinds=None):
    """One paper in one sitting, written by candidates 1, 2 ... of these centres; guards: id and centre."""
    calls = [open_office(4, ratio), sitting(1, 0, 200), paper(), *rooms]
    calls += [candidate(who, 0 if kinds is None else kinds[who - 1], centre) for who, centre in enumerate(centres, 1)]
    calls += [enter(who, 1) for who in range(1, len(centres) + 1)]
    return [*calls, *[invigilator(who, centre) for who, centre in guards], put(1, 1)]


def single(*sizes):
    """Rooms with rows of one seat: each seats as many of one paper as it has rows."""
    return [room(0, [1] * size) for size in sizes]


class Refusals(unittest.TestCase):
    def test_ranges(self):
        office = [open_office(), *[sitting(day) for day in range(1, 6)], room()]
        let, beyond = edges(office, invigilators, 1, 5)
        self.assertEqual(let, [[0, 1], [0, 1]])
        self.assertEqual(beyond, [[-1]] * 4)

    def test_not_open(self):
        self.assertEqual(ask(invigilators(1), invigilators(0), invigilators(6)), [[-2], [-1], [-1]])

    def test_no_such_sitting(self):
        self.assertEqual(last(open_office(), invigilators(1)), [-5])
        self.assertEqual(last(open_office(), sitting(), invigilator(1), invigilators(2)), [-5])

    def test_asking_changes_nothing(self):
        office = told(1, single(1, 1), [5, 6], [(31, 5), (32, 6)])
        found = ask(*office, invigilators(1), invigilators(2), seats(1), invigilators(1), table())
        self.assertEqual(found[-5:], [[0, 1, 1, 32, 2, 31], [-5], [0, 1, 1, 1, 2], [0, 1, 1, 32, 2, 31], [0, 1]])


class Met(unittest.TestCase):
    def check_answer(self, office, wanted):
        self.assertEqual(last(*office, invigilators(1)), wanted)

    def test_nothing_wanted(self):
        self.check_answer([open_office(), sitting()], [0, 1])
        self.check_answer([open_office(), sitting(), room(), invigilator(1)], [0, 1])
        self.check_answer(told(1, single(3), [], [(31, 1)]), [0, 1])
        self.check_answer([*told(1, single(1), [5], []), put(1, 0)], [0, 1])

    def test_one(self):
        self.check_answer(told(30, single(1), [5], [(31, 6)]), [0, 1, 1, 31])

    def test_a_ratio_that_divides_and_one_that_does_not(self):
        guards = [(31, 9), (32, 9), (33, 9), (34, 9), (35, 9), (36, 9), (37, 9), (38, 9)]
        for ratio in range(1, 9):
            many = (6 + ratio - 1) // ratio
            self.check_answer(told(ratio, single(6), [5] * 6, guards), [0, 1, *flat([1, 31 + n] for n in range(many))])
        self.check_answer(told(3, single(6, 1), [5] * 7, guards), [0, 1, 1, 31, 1, 32, 2, 33])
        self.check_answer(told(2, single(3, 3), [5] * 6, guards), [0, 1, 1, 31, 1, 32, 2, 33, 2, 34])

    def test_as_many_as_the_room_has_not_all(self):
        self.check_answer(told(2, single(1, 1, 1), [5] * 3, [(31, 1), (32, 1), (33, 1)]), [0, 1, 1, 31, 2, 32, 3, 33])

    def test_in_the_order_of_telling(self):
        self.check_answer(told(1, single(2), [5, 5], [(38, 1), (31, 1), (35, 1)]), [0, 1, 1, 38, 1, 31])

    def test_none_for_their_own_centre(self):
        self.check_answer(told(1, single(1, 1), [5, 6], [(31, 5), (32, 6)]), [0, 1, 1, 32, 2, 31])
        self.check_answer(told(2, single(2), [5, 6], [(31, 5), (32, 6), (33, 7)]), [0, 1, 1, 33])

    def test_centres_of_this_room_alone(self):
        self.check_answer(told(2, single(2, 2), [5, 5, 6, 6], [(31, 6), (32, 5)]), [0, 1, 1, 31, 2, 32])

    def test_rooms_without_candidates_are_not_among_them(self):
        rooms = [room(1, [5]), room(0, [1]), room(1, [5]), room(0, [1])]
        self.check_answer(told(1, rooms, [5, 5], [(31, 1), (32, 1), (33, 1)]), [0, 1, 2, 31, 4, 32])

    def test_quiet_rooms_too(self):
        rooms = [room(1, [1]), room(0, [1])]
        self.check_answer(told(1, rooms, [5, 6], [(31, 6), (32, 5)], [0, 50]), [0, 1, 1, 32, 2, 31])

    def test_a_want_waits_for_one_who_leaves_the_rest_met(self):
        # 31 may be in both rooms, 32 in the first alone: the first want can't go to 31.
        self.check_answer(told(1, single(1, 1), [5, 6], [(31, 7), (32, 6)]), [0, 1, 1, 32, 2, 31])
        self.check_answer(told(1, single(1, 1), [5, 6], [(31, 7), (32, 6), (33, 7)]), [0, 1, 1, 31, 2, 33])
        self.check_answer(told(1, single(2, 1), [5, 5, 6], [(31, 7), (32, 6), (33, 6)]),
                          [0, 1, 1, 32, 1, 33, 2, 31])
        self.check_answer(told(1, single(1, 1, 1), [5, 6, 7], [(31, 8), (32, 7), (33, 7)]),
                          [0, 1, 1, 32, 2, 33, 3, 31])

    def test_of_this_sitting(self):
        calls = [open_office(4, 1), sitting(1), sitting(2), paper(), paper(), room(0, [3]), candidate(1, 0, 5),
                 candidate(2, 0, 6), enter(1, 1), enter(2, 2), invigilator(31, 5), invigilator(32, 6), adopt(1, 2)]
        self.assertEqual(ask(*calls, invigilators(1), invigilators(2))[-2:], [[0, 1, 1, 32], [0, 1, 1, 31]])
        self.assertEqual(ask(*calls, put(2, 1), invigilators(1), invigilators(2))[-2:], [[0, 0], [0, 1]])

    def test_a_candidate_and_an_invigilator_of_one_id(self):
        self.check_answer(told(1, single(1), [5], [(1, 6)]), [0, 1, 1, 1])
        self.check_answer(told(1, single(1), [5], [(1, 5)]), [0, 0])


class Short(unittest.TestCase):
    def check_answer(self, office, wanted):
        self.assertEqual(last(*office, invigilators(1)), wanted)

    def test_the_empty_set(self):
        self.check_answer(told(1, single(1), [5], []), [0, 0])
        self.check_answer(told(1, single(1), [5], [(31, 5)]), [0, 0])
        self.check_answer(told(1, single(3), [5] * 3, [(31, 1), (32, 1)]), [0, 0])
        self.check_answer(told(1, single(1, 1), [5, 6], [(31, 6), (32, 6), (33, 6)]), [0, 0])

    def test_a_set_of_one(self):
        # Each room finds 31, both want one.
        self.check_answer(told(1, single(1, 1), [5, 5], [(31, 1)]), [0, 0, 31])
        self.check_answer(told(1, single(1, 1), [5, 5], [(30, 5), (31, 1), (32, 5)]), [0, 0, 31])

    def test_a_set_of_several(self):
        self.check_answer(told(1, single(1, 1, 1), [5] * 3, [(31, 1), (32, 1)]), [0, 0, 31, 32])
        # Two of the three are missed once by each room, which is no more than they are; all three are missed twice.
        self.check_answer(told(1, single(2, 2), [5] * 4, [(31, 1), (30, 5), (32, 1), (33, 1)]), [0, 0, 31, 32, 33])
        self.check_answer(told(1, single(1, 1, 1), [5] * 3, [(32, 1), (30, 5), (31, 1)]), [0, 0, 32, 31])
        self.check_answer(told(1, single(1, 1, 1, 1), [5] * 4, [(38, 1), (30, 5), (32, 1), (35, 1)]),
                          [0, 0, 38, 32, 35])

    def test_the_first_of_several(self):
        # Each set of one is short: the first one as told, not the least id.
        self.check_answer(told(1, single(2, 2), [5] * 4, [(32, 1), (31, 1)]), [0, 0, 32])
        # Rooms 1 and 2 find 33 alone, rooms 3 and 4 find 32 alone.
        self.check_answer(told(1, single(1, 1, 1, 1), [5, 5, 6, 6], [(33, 6), (32, 5)]), [0, 0, 33])
        self.check_answer(told(1, single(1, 1, 1, 1), [6, 6, 5, 5], [(33, 6), (32, 5)]), [0, 0, 33])

    def test_the_smaller_one_first(self):
        # 31 and 32 are short for rooms 1 to 3, 33 alone is for none.
        self.check_answer(told(1, single(1, 1, 1, 1), [5, 5, 5, 6], [(31, 6), (33, 5), (32, 6)]), [0, 0, 31, 32])

    def test_eight_at_most(self):
        guards = [(who, 1) for who in range(31, 39)]
        self.check_answer(told(1, single(3, 3, 3), [5] * 9, guards), [0, 0, *range(31, 39)])
        self.check_answer(told(1, single(4, 4, 4), [5] * 12, guards), [0, 0, *range(31, 38)])
        self.check_answer(told(1, single(6, 2), [5] * 8, guards), [0, 1, *flat([1, who] for who in range(31, 37)),
                                                                 2, 37, 2, 38])

    def test_it_can_be_met_later(self):
        office = told(1, single(1, 1), [5, 5], [(31, 1)])
        found = ask(*office, invigilators(1), invigilator(32, 2), invigilators(1))
        self.assertEqual(found[-3:], [[0, 0, 31], [0], [0, 1, 1, 31, 2, 32]])


class ByTrying(unittest.TestCase):
    def test_small_offices(self):
        """Every set and every way to send them is tried."""
        source = random.Random(18)
        met = {}
        short = {}
        several_short = passed_over = 0
        for n in range(1200):
            office = drawn_office(source, source.randint(0, 14), source.choice((1, 2, 2, 3, 4)),
                                  source.choice((3, 5, 8)), guards=source.randint(0, 8), most_seats=3, entries=(1,))
            line = [*office, invigilators(1), invigilators(2)]
            found = ask(*line)
            self.assertEqual(found, slow_answers(line), line)
            for k in (1, 2):
                answer = found[len(office) + k - 1]
                (met if answer[1] else short)[len(answer) - 2] = True
                several_short += not answer[1] and len(list(short_sets(office, k))) > 1
                passed_over += bool(answer[1]) and answer[3::2] != without_looking_ahead(office, k)
        self.assertLessEqual({0, 2, 4, 6, 8, 10}, set(met))
        self.assertLessEqual({0, 1, 2, 3}, set(short))
        self.assertGreater(several_short, 20)
        self.assertGreater(passed_over, 5)


def slow_office(office):
    slow = SlowOffice()
    for call in office:
        slow.answer(call)
    return slow


def short_sets(office, k):
    slow = slow_office(office)
    wants = slow.wants(k)
    return [group for group in subsets(list(slow.guards)) if slow.short(group, wants)]


def without_looking_ahead(office, k):
    """Each want to the first one who may be there and isn't in a room yet, whether the rest can be met or not."""
    sent = []
    for want, may in slow_office(office).wants(k):
        sent += [who for who in may if who not in sent][:want]
    return sent


if __name__ == "__main__":
    unittest.main()
