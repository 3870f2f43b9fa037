"""Points 5, 6 and 7 on a timetable kept: the refusal -10, and that what is kept stays right whatever is asked."""

import random
import unittest

from tests.drawn import drawn_office, ids_of
from tests.support import (adopt, ahead, ask, candidate, check, clashes, enter, entered, invigilator, last, lengths,
                           open_office, paper, papers, put, room, sitters, sitting, table, withdraw, would)

# Two sittings on day 1, one on day 2.
SITTINGS = [sitting(1, 0), sitting(1, 60), sitting(2, 0)]


def told(per_day=4, how_many=3, rooms=(room(0, [10]), room(1, [10])), sittings=SITTINGS):
    return [open_office(per_day), *sittings, *[paper()] * how_many, *rooms]


class Enter(unittest.TestCase):
    def check_refused(self, office, who, p, refusal=-10):
        """Nothing changes: neither the timetable kept nor who is entered."""
        asked = [table(), papers(who), sitters(p), clashes(), lengths()]
        before = ask(*office, *asked)
        after = ask(*office, enter(who, p), *asked)
        self.assertEqual(after[len(office)], [refusal])
        self.assertEqual(after[len(office) + 1:], before[len(office):])

    def test_too_long(self):
        office = [*told(), candidate(9, 1), candidate(8), adopt(1, 0, 0)]
        self.check_refused(office, 9, 1)
        self.assertEqual(last(*office, enter(8, 1)), [0])
        self.assertEqual(last(*office, enter(9, 2)), [0])
        self.assertEqual(last(*office, put(1, 0), enter(9, 1)), [0])

    def test_two_at_once(self):
        office = [*told(), candidate(9), enter(9, 1), adopt(1, 1, 2)]
        self.check_refused(office, 9, 2)
        self.assertEqual(last(*office, enter(9, 3)), [0])
        self.assertEqual(last(*office, withdraw(9, 1), enter(9, 2)), [0])
        self.assertEqual(last(*office, put(2, 2), enter(9, 2)), [0])

    def test_crowded_day(self):
        office = [*told(1), candidate(9), enter(9, 1), adopt(1, 2, 3)]
        self.check_refused(office, 9, 2)
        self.assertEqual(last(*office, enter(9, 3)), [0])
        self.assertEqual(last(*told(2), candidate(9), enter(9, 1), adopt(1, 2, 3), enter(9, 2)), [0])

    def test_without_a_seat(self):
        office = [*told(rooms=[room(0, [2])]), candidate(9), candidate(8), enter(9, 1), adopt(1, 1, 0)]
        self.check_refused(office, 8, 1)
        self.assertEqual(last(*office, enter(8, 2)), [0])
        self.assertEqual(last(*office, enter(8, 3)), [0])
        self.assertEqual(last(*office, room(0, [1]), enter(8, 1)), [0])

    def test_without_a_quiet_seat(self):
        long = [sitting(1, 0, 120)]
        office = [*told(1, 1, [room(0, [10]), room(1, [1])], long), candidate(9, 50), candidate(8, 50), candidate(7),
                  enter(9, 1), adopt(1)]
        self.check_refused(office, 8, 1)
        self.assertEqual(last(*office, enter(7, 1)), [0])

    def test_no_rooms(self):
        office = [*told(rooms=[]), candidate(9), adopt(1, 0, 0)]
        self.check_refused(office, 9, 1)
        self.assertEqual(last(*office, enter(9, 2)), [0])

    def test_other_refusals_come_first(self):
        office = [*told(rooms=[room(0, [1])]), candidate(9), candidate(8), enter(9, 1), adopt(1, 1, 0)]
        self.check_refused(office, 9, 1, -11)
        self.assertEqual(last(*office, enter(7, 1)), [-3])
        self.assertEqual(last(*office, enter(8, 4)), [-4])
        self.assertEqual(last(*office, enter(8, 7)), [-1])
        self.check_refused(office, 8, 1)


class Ahead(unittest.TestCase):
    def test_out_of_order(self):
        office = [*told(), adopt(1, 2, 1)]
        for p, q, answer in ((2, 1, -10), (1, 3, -10), (3, 1, -10), (2, 3, -10), (3, 2, 0), (1, 2, 0)):
            found = ask(*office, ahead(p, q), table(), check(3, 3, 3))[-3:]
            wrong = [0, 0, 4, p, q] if answer == 0 else [0, 1, 1]
            self.assertEqual(found, [[answer], [0, 1, 2, 1], wrong])

    def test_papers_that_are_not_put(self):
        office = [*told(), adopt(1, 0, 0)]
        for p, q in ((1, 2), (2, 1), (2, 3), (3, 2)):
            self.assertEqual(last(*office, ahead(p, q)), [0])

    def test_refused_order_may_be_told_later(self):
        found = ask(*told(), adopt(2, 1, 0), ahead(1, 2), put(1, 0), ahead(1, 2), put(1, 1), put(2, 2), put(1, 1))
        self.assertEqual(found[-6:], [[-10], [0], [0], [-10], [0], [0]])

    def test_other_refusals_come_first(self):
        pairs = [(p, q) for p in range(1, 7) for q in range(p + 1, 7)][:10]
        office = [*told(how_many=6), *[ahead(p, q) for p, q in pairs], adopt(1, 0, 0, 0, 0, 2)]
        self.assertEqual(last(*office, ahead(6, 1)), [-7])
        self.assertEqual(last(*office, ahead(1, 6)), [-11])
        self.assertEqual(last(*office, ahead(1, 1)), [-13])
        self.assertEqual(last(*told(), adopt(1, 1, 1), ahead(2, 4)), [-4])
        nine = [*told(how_many=6), *[ahead(p, q) for p, q in pairs[:9]], adopt(1, 0, 0, 0, 0, 2)]
        self.assertEqual(last(*nine, ahead(6, 1)), [-10])
        self.assertEqual(ask(*nine, ahead(6, 1), ahead(1, 6), ahead(2, 1))[-3:], [[-10], [-11], [0]])


class Withdraw(unittest.TestCase):
    def test_the_timetable_stays(self):
        office = [*told(), *entered([1, 2], [3]), adopt(1, 2, 1)]
        found = ask(*office, withdraw(1, 1), table(), withdraw(2, 3), table(), withdraw(1, 1), table())
        self.assertEqual(found[-6:], [[0], [0, 1, 2, 1], [0], [0, 1, 2, 1], [-12], [0, 1, 2, 1]])

    def test_what_it_makes_room_for(self):
        office = [*told(), *entered([1, 2]), adopt(1, 2, 0)]
        self.assertEqual(ask(*office, put(2, 1), withdraw(1, 1), put(2, 1), table())[-4:],
                         [[-10], [0], [0], [0, 1, 1, 0]])
        self.assertEqual(last(*office, withdraw(1, 2), would(2, 1)), [0, 1, 1])

    def test_back_again(self):
        office = [*told(1), *entered([1, 3]), adopt(1, 2, 3), withdraw(1, 1), enter(1, 2)]
        self.assertEqual(ask(*office, enter(1, 1), withdraw(1, 2), enter(1, 1))[-3:], [[-10], [0], [0]])


class StaysRight(unittest.TestCase):
    def test_new_things_leave_it_as_it_is(self):
        office = [*told(how_many=2), *entered([1, 2]), adopt(1, 2)]
        found = ask(*office, sitting(3), paper(), room(), candidate(5), invigilator(5), table(), check(1, 2, 0))
        self.assertEqual(found[-2:], [[0, 1, 2, 0], [0, 1, 2]])

    def test_whatever_is_asked(self):
        source = random.Random(10)
        refused = {5: 0, 7: 0, 14: 0, 15: 0}
        for n in range(150):
            calls = drawn_office(source, source.randint(1, 10), 3, sittings=4)
            how_many = len([call for call in calls if call[0] == 2])
            for turn in range(15):
                p = source.randint(1, how_many)
                calls.append(source.choice((
                    enter(source.choice(ids_of(calls, 4)), p), withdraw(source.choice(ids_of(calls, 4)), p),
                    ahead(p, source.randint(1, how_many)), put(p, source.randint(0, 4)),
                    adopt(*[source.randint(0, 4) for q in range(how_many)]))))
                found = ask(*calls, table())
                self.assertEqual(last_verdict(calls, found[-1][1:]), 1)
                if found[-2] == [-10]:
                    refused[calls[-1][0]] += 1
                    self.assertEqual(ask(*calls[:-1], table())[-1], found[-1])
        self.assertGreater(min(refused.values()), 5)


def last_verdict(calls, timetable):
    """1 if check says that the timetable is right."""
    return ask(*calls, check(*timetable))[-1][1]


if __name__ == "__main__":
    unittest.main()
