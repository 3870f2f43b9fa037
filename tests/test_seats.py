"""Points 16 and 17: seats and where, and what seated means."""

import random
import unittest
from itertools import combinations_with_replacement, product

from sittingrooms.rules import fit_into_rows
from sittingrooms.seating import fit_behind
from tests.drawn import drawn_office, ids_of
from tests.reference import seats_found
from tests.slow_office import slow_answers
from tests.support import (TOP_ID, adopt, ask, candidate, edges, enter, entered, last, open_office, paper, put, room,
                           seats, sitting, table, where, withdraw)


def told(how_many, rooms, people, timetable=None, sittings=(sitting(1, 0, 200), sitting(2, 0, 200))):
    return [open_office(), *sittings, *[paper()] * how_many, *rooms, *people, adopt(*(timetable or [1] * how_many))]


class Seated(unittest.TestCase):
    """The two counts that decide who can be seated, against trying every seat."""

    def test_whole_rows(self):
        asked = 0
        for how_many in range(4):
            for rows in combinations_with_replacement(range(1, 5), how_many):
                for counts in combinations_with_replacement(range(6), 3):
                    asked += 1
                    self.assertEqual(fit_into_rows(list(counts), list(rows)), seats_found(rows, counts, None),
                                     (rows, counts))
        self.assertGreater(asked, 1000)

    def test_one_long_row(self):
        for size in range(1, 11):
            for counts in combinations_with_replacement(range(7), 2):
                self.assertEqual(fit_into_rows(list(counts), [size]), seats_found((size,), counts, None))

    def test_nobody(self):
        self.assertTrue(fit_into_rows([], []))
        self.assertTrue(fit_into_rows([0, 0], []))
        self.assertFalse(fit_into_rows([1], []))

    def test_the_rest_of_a_row(self):
        for left in range(8):
            for rows in ((), (1,), (2,), (3,), (1, 1), (3, 2), (1, 3)):
                for counts in product(range(5), repeat=3):
                    self.assertEqual(fit_behind(list(counts), 0, left, list(rows)),
                                     seats_found((left, *rows), counts, 0), (left, rows, counts))


class Refusals(unittest.TestCase):
    def office(self):
        days = [sitting(day) for day in range(1, 6)]
        return [open_office(), *days, paper(), room(), candidate(1), candidate(TOP_ID), enter(1, 1), put(1, 5)]

    def check_edges(self, make, low, high):
        let, beyond = edges(self.office(), make, low, high)
        self.assertEqual([answer[0] for answer in let], [0, 0])
        self.assertEqual(beyond, [[-1]] * 4)

    def test_ranges(self):
        self.check_edges(seats, 1, 5)
        self.check_edges(lambda value: where(value, 5), 1, TOP_ID)
        self.check_edges(lambda value: where(1, value), 1, 5)

    def test_not_open(self):
        self.assertEqual(ask(seats(1), where(1, 1), seats(6), where(0, 1)), [[-2], [-2], [-1], [-1]])

    def test_no_such_sitting(self):
        self.assertEqual(last(open_office(), room(), seats(1)), [-5])
        self.assertEqual(last(open_office(), sitting(), room(), seats(2)), [-5])
        self.assertEqual(last(open_office(), sitting(), candidate(3), where(3, 2)), [-5])

    def test_no_candidate_comes_before_no_sitting(self):
        self.assertEqual(last(open_office(), sitting(), candidate(3), where(4, 1)), [-3])
        self.assertEqual(last(open_office(), sitting(), candidate(3), where(4, 2)), [-3])
        self.assertEqual(last(open_office(), where(4, 6)), [-1])

    def test_asking_changes_nothing(self):
        office = told(1, [room(0, [3])], entered([1], [1]))
        found = ask(*office, seats(1), where(2, 1), where(9, 1), seats(3), seats(1), table())
        self.assertEqual(found[-6:], [[0, 3, 1, 0, 2], [0, 1, 1, 3], [-3], [-5], [0, 3, 1, 0, 2], [0, 1]])


class Small(unittest.TestCase):
    def check_seats(self, office, wanted, k=1):
        """wanted: each room's rows. Where must say the same of everybody."""
        answer = [0]
        places = {}
        for number, rows in enumerate(wanted, start=1):
            people = sum(rows, [])
            answer += [len(people), *people]
            for r, row in enumerate(rows, start=1):
                places.update({who: [0, number, r, s] for s, who in enumerate(row, start=1) if who})
        self.assertEqual(last(*office, seats(k)), answer)
        for who in ids_of(office, 4):
            self.assertEqual(last(*office, where(who, k)), places.get(who, [0, 0, 0, 0]))

    def test_no_rooms(self):
        self.check_seats(told(0, [], []), [])
        self.check_seats(told(2, [], [candidate(1)]), [])

    def test_nobody_entered(self):
        self.check_seats(told(2, [room(0, [2, 1]), room(1, [3])], [candidate(5), candidate(6, 10)]),
                         [[[0, 0], [0]], [[0, 0, 0]]])

    def test_one(self):
        self.check_seats(told(1, [room(0, [1])], entered([1])), [[[1]]])
        self.check_seats(told(1, [room(0, [3])], entered([1])), [[[1, 0, 0]]])

    def test_of_one_paper_a_seat_stays_empty_in_between(self):
        self.check_seats(told(1, [room(0, [3])], entered([1], [1])), [[[1, 0, 2]]])
        self.check_seats(told(1, [room(0, [4])], entered([1], [1])), [[[1, 0, 2, 0]]])
        self.check_seats(told(1, [room(0, [2, 3])], entered([1], [1], [1])), [[[1, 0], [2, 0, 3]]])

    def test_papers_take_turns(self):
        self.check_seats(told(2, [room(0, [5])], entered([1], [1], [2], [2])), [[[1, 3, 2, 4, 0]]])
        self.check_seats(told(3, [room(0, [5])], entered([3], [2], [1], [1])), [[[3, 2, 4, 1, 0]]])

    def test_rows_and_rooms_are_not_beside_one_another(self):
        self.check_seats(told(1, [room(0, [1, 1]), room(0, [1])], entered([1], [1], [1])), [[[1], [2]], [[3]]])
        self.check_seats(told(2, [room(0, [3, 1])], entered([1], [1], [1], [2])), [[[1, 4, 2], [3]]])

    def test_rows_of_one_seat(self):
        self.check_seats(told(2, [room(0, [1] * 6)], entered([2], [1], [2], [1])), [[[2], [4], [1], [3], [0], [0]]])

    def test_a_paper_waits_so_that_the_others_find_seats(self):
        # Were paper 1 on the first seat, the two of paper 2 would have to be beside one another.
        self.check_seats(told(2, [room(0, [3])], entered([1], [2], [2])), [[[2, 1, 3]]])
        self.check_seats(told(2, [room(0, [5])], entered([1], [2], [2], [2])), [[[2, 1, 3, 0, 4]]])
        self.check_seats(told(3, [room(0, [5])], entered([1], [3], [3], [3], [2])), [[[2, 1, 3, 5, 4]]])
        self.check_seats(told(2, [room(0, [2, 1])], entered([1], [2], [2])), [[[1, 2], [3]]])
        self.check_seats(told(2, [room(0, [1, 1, 1])], entered([1], [2], [2])), [[[1], [2], [3]]])
        self.check_seats(told(2, [room(0, [2]), room(0, [3])], entered([1], [1], [2], [2], [2])),
                         [[[1, 3]], [[4, 2, 5]]])

    def test_quiet_and_plain_rooms_are_filled_apart(self):
        people = [candidate(1, 10), candidate(2), candidate(3, 20), candidate(4), candidate(5, 100), candidate(6)]
        people += [enter(who, 1 + who % 2) for who in range(1, 7)]
        rooms = [room(1, [2]), room(0, [1]), room(1, [3, 1]), room(0, [4])]
        self.check_seats(told(2, rooms, people), [[[1, 0]], [[2]], [[3, 0, 5], [0]], [[4, 0, 6, 0]]])

    def test_a_room_without_candidates(self):
        rooms = [room(1, [2]), room(0, [3]), room(0, [2, 2])]
        self.check_seats(told(1, rooms, entered([1])), [[[0, 0]], [[1, 0, 0]], [[0, 0], [0, 0]]])

    def test_in_the_order_of_telling_candidates(self):
        people = [candidate(8), candidate(3), candidate(5), enter(5, 1), enter(3, 1), enter(8, 1)]
        self.check_seats(told(1, [room(0, [5])], people), [[[8, 0, 3, 0, 5]]])

    def test_papers_of_this_sitting_alone(self):
        office = told(3, [room(0, [5])], entered([1], [2], [3], [1, 2]), [1, 2, 1])
        self.check_seats(office, [[[1, 3, 4, 0, 0]]], 1)
        self.check_seats(office, [[[2, 0, 4, 0, 0]]], 2)
        self.check_seats([*office, put(3, 0)], [[[1, 0, 4, 0, 0]]], 1)
        self.check_seats([*office, put(1, 0), put(3, 0)], [[[0, 0, 0, 0, 0]]], 1)
        self.check_seats([*office, withdraw(1, 1)], [[[4, 3, 0, 0, 0]]], 1)

    def test_as_paper_numbers_not_as_entries(self):
        self.check_seats(told(2, [room(0, [2])], entered([2], [1])), [[[2, 1]]])


class ByTrying(unittest.TestCase):
    def test_small_offices(self):
        source = random.Random(16)
        seen = {}
        for n in range(400):
            office = drawn_office(source, source.randint(0, 14), 3, guards=0, entries=(1, 1, 2))
            for k in (1, 2):
                line = [*office, seats(k), *[where(who, k) for who in ids_of(office, 4)]]
                found = ask(*line)
                self.assertEqual(found, slow_answers(line), line)
                self.check_rightly_seated(office, k, found)
                seen[len([answer for answer in found[len(office) + 1:] if answer[1]])] = True
        self.assertLessEqual(set(range(11)), set(seen))

    def test_rooms_that_are_just_large_enough(self):
        source = random.Random(17)
        for n in range(400):
            rows = [source.randint(1, 5) for row in range(source.randint(1, 4))]
            left = sum(rows) - source.choice((0, 0, 1))
            most = sum((size + 1) // 2 for size in rows)
            entries = []
            while left:
                p = source.randint(1, 4)
                many = min(source.randint(1, most), left, most - entries.count([p]))
                entries += [[p]] * many
                left -= many
            source.shuffle(entries)
            line = [*told(4, [room(0, rows[:2])] + [room(0, [size]) for size in rows[2:]], entered(*entries)), seats(1)]
            self.assertEqual(ask(*line), slow_answers(line), line)

    def check_rightly_seated(self, office, k, found):
        """Everybody who writes has one seat, of their kind, and nobody of the same paper is beside them."""
        timetable = last_table(office)
        extra = {call[1]: call[3] for call in office if call[0] == 4}
        written = {call[1]: call[2] for call in office if call[0] == 5 and timetable[call[2] - 1] == k}
        places = dict(zip(extra, found[len(office) + 1:]))
        self.assertEqual({who for who in places if places[who] != [0, 0, 0, 0]}, set(written))
        rooms = [call for call in office if call[0] == 3]
        taken = {}
        for who in written:
            number, row, seat = places[who][1:]
            self.assertEqual(rooms[number - 1][1], 1 if extra[who] else 0)
            self.assertLessEqual(seat, rooms[number - 1][2 + row])
            self.assertNotIn((number, row, seat), taken)
            taken[number, row, seat] = written[who]
        for (number, row, seat), p in taken.items():
            self.assertNotEqual(taken.get((number, row, seat + 1)), p)


def last_table(office):
    return ask(*office, table())[-1][1:]


if __name__ == "__main__":
    unittest.main()
