"""Points 20, 21, 22 and 24: papers, sitters, days and lengths."""

import unittest

from tests.support import (TOP_ID, adopt, ask, candidate, days, edges, enter, entered, last, last_of_any, lengths,
                           open_office, paper, papers, put, room, sitters, sitting, withdraw)

SITTINGS = [sitting(2, 0), sitting(2, 60), sitting(5, 0), sitting(9, 0), sitting(9, 60)]
OFFICE = [open_office(), *SITTINGS, *[paper()] * 6, room(0, [10] * 6)]


class Refusals(unittest.TestCase):
    def check_edges(self, make, low, high):
        let, beyond = edges([*OFFICE, candidate(1), candidate(TOP_ID)], make, low, high)
        self.assertEqual([answer[0] for answer in let], [0, 0])
        self.assertEqual(beyond, [[-1]] * 4)

    def test_ranges(self):
        self.check_edges(papers, 1, TOP_ID)
        self.check_edges(sitters, 1, 6)
        self.check_edges(days, 1, TOP_ID)

    def test_not_open(self):
        self.assertEqual(ask(papers(1), sitters(1), days(1), lengths()), [[-2]] * 4)
        self.assertEqual(ask(papers(0), sitters(0), days(0), sitters(7)), [[-1]] * 4)

    def test_no_such_candidate(self):
        for make in (papers, days):
            self.assertEqual(last(open_office(), make(1)), [-3])
            self.assertEqual(last(*OFFICE, candidate(5), make(4)), [-3])
            self.assertEqual(last(*OFFICE, candidate(5), make(5))[0], 0)

    def test_an_invigilator_is_no_candidate(self):
        for make in (papers, days):
            self.assertEqual(last(*OFFICE, [8, 5, 1], make(5)), [-3])

    def test_no_such_paper(self):
        self.assertEqual(last(open_office(), sitters(1)), [-4])
        self.assertEqual(last(open_office(), paper(), sitters(2)), [-4])
        self.assertEqual(last(open_office(), paper(), sitters(1)), [0])


class Papers(unittest.TestCase):
    def test_entered_for_nothing(self):
        self.assertEqual(last(*OFFICE, *entered([], [1]), papers(1)), [0])

    def test_by_papers_numbers(self):
        self.assertEqual(last(*OFFICE, *entered([6, 2, 4, 1]), papers(1)), [0, 1, 0, 2, 0, 4, 0, 6, 0])

    def test_with_their_sittings(self):
        office = [*OFFICE, *entered([6, 2, 4], [1, 3]), adopt(1, 3, 2, 0, 4, 5)]
        self.assertEqual(last(*office, papers(1)), [0, 2, 3, 4, 0, 6, 5])
        self.assertEqual(last(*office, papers(2)), [0, 1, 1, 3, 2])
        self.assertEqual(last(*office, put(6, 4), put(2, 0), papers(1)), [0, 2, 0, 4, 0, 6, 4])

    def test_after_withdrawing(self):
        self.assertEqual(last(*OFFICE, *entered([1, 2, 3]), withdraw(1, 2), papers(1)), [0, 1, 0, 3, 0])

    def test_a_refused_entry_is_not_among_them(self):
        office = [*OFFICE, *entered([1]), adopt(1, 1, 0, 0, 0, 0)]
        self.assertEqual(last_of_any(*office, enter(1, 2), papers(1)), [0, 1, 1])

    def test_all_six(self):
        office = [*OFFICE, *entered([1, 2, 3, 4, 5, 6]), adopt(5, 4, 3, 2, 1, 0)]
        self.assertEqual(last(*office, papers(1)), [0, 1, 5, 2, 4, 3, 3, 4, 2, 5, 1, 6, 0])


class Sitters(unittest.TestCase):
    def test_in_the_order_of_telling_candidates(self):
        people = [candidate(8), candidate(3), candidate(5), candidate(1)]
        office = [*OFFICE, *people, enter(1, 2), enter(5, 2), enter(8, 2), enter(3, 1)]
        self.assertEqual(last(*office, sitters(2)), [0, 8, 5, 1])
        self.assertEqual(last(*office, sitters(1)), [0, 3])
        self.assertEqual(last(*office, sitters(3)), [0])
        self.assertEqual(last(*office, withdraw(5, 2), enter(3, 2), sitters(2)), [0, 8, 3, 1])
        self.assertEqual(last(*office, withdraw(8, 2), enter(8, 2), sitters(2)), [0, 8, 5, 1])

    def test_put_or_not(self):
        office = [*OFFICE, *entered([1], [1])]
        self.assertEqual(last(*office, put(1, 3), sitters(1)), [0, 1, 2])

    def test_with_extra_time_too(self):
        self.assertEqual(last(*OFFICE, candidate(5, 100), candidate(4), enter(4, 1), enter(5, 1), sitters(1)), [0, 5, 4])

    def test_thirty(self):
        self.assertEqual(last(*OFFICE, *entered(*[[6]] * 30), sitters(6)), [0, *range(1, 31)])


class Days(unittest.TestCase):
    def test_no_sittings(self):
        self.assertEqual(last(open_office(), paper(), *entered([1]), days(1)), [0])

    def test_sittings_of_one_day(self):
        office = [open_office(), sitting(7, 0), sitting(7, 60), *[paper()] * 3, room(), *entered([1, 2])]
        self.assertEqual(last(*office, days(1)), [0, 7, 0])
        self.assertEqual(last(*office, put(1, 2), days(1)), [0, 7, 1])
        self.assertEqual(last(*office, adopt(1, 2, 1), days(1)), [0, 7, 2])

    def test_sittings_of_several_days(self):
        office = [*OFFICE, *entered([1, 2, 4], [3], []), adopt(1, 2, 2, 5, 5, 0)]
        self.assertEqual(last(*office, days(1)), [0, 2, 2, 5, 0, 9, 1])
        self.assertEqual(last(*office, days(2)), [0, 2, 1, 5, 0, 9, 0])
        self.assertEqual(last(*office, days(3)), [0, 2, 0, 5, 0, 9, 0])
        self.assertEqual(last(*office, put(4, 3), put(2, 0), days(1)), [0, 2, 1, 5, 1, 9, 0])
        self.assertEqual(last(*office, withdraw(1, 4), days(1)), [0, 2, 2, 5, 0, 9, 0])

    def test_papers_that_are_not_put(self):
        self.assertEqual(last(*OFFICE, *entered([1, 2, 3, 4, 5, 6]), days(1)), [0, 2, 0, 5, 0, 9, 0])

    def test_a_sitting_beyond_its_day_counts_where_it_begins(self):
        office = [open_office(), sitting(1, 1439, 600), sitting(2, 0), paper(), paper(), room(), *entered([1, 2])]
        self.assertEqual(last(*office, adopt(1, 2), days(1)), [0, 1, 1, 2, 1])

    def test_five_days(self):
        office = [open_office(), *[sitting(day) for day in (1, 4, 9, 16, 30)], *[paper()] * 5, room()]
        self.assertEqual(last(*office, *entered([1, 2, 3, 4, 5]), adopt(1, 2, 3, 4, 5), days(1)),
                         [0, 1, 1, 4, 1, 9, 1, 16, 1, 30, 1])


class Lengths(unittest.TestCase):
    def test_no_papers(self):
        self.assertEqual(last(open_office(), lengths()), [0])

    def test_nobody_entered(self):
        self.assertEqual(last(open_office(), paper(1), paper(300), candidate(1, 100), lengths()),
                         [0, 1, 1, 0, 300, 300, 0])

    def test_several_entered(self):
        people = [candidate(1, 10), candidate(2), candidate(3, 25), candidate(4, 100)]
        office = [open_office(), paper(61), paper(100), paper(30), *people, enter(1, 1), enter(2, 1), enter(3, 1),
                  enter(2, 2), enter(1, 2)]
        self.assertEqual(last(*office, lengths()), [0, 61, 77, 3, 100, 110, 2, 30, 30, 0])
        self.assertEqual(last(*office, withdraw(3, 1), lengths()), [0, 61, 68, 2, 100, 110, 2, 30, 30, 0])
        self.assertEqual(last(*office, enter(4, 3), lengths()), [0, 61, 77, 3, 100, 110, 2, 30, 60, 1])

    def test_the_part_is_rounded_up(self):
        office = [open_office(), paper(1), paper(101), paper(200), candidate(1, 1)]
        self.assertEqual(last(*office, *[enter(1, p) for p in (1, 2, 3)], lengths()),
                         [0, 1, 2, 1, 101, 103, 1, 200, 202, 1])

    def test_put_or_not(self):
        office = [*OFFICE[:7], *entered([1], [1], [])]
        self.assertEqual(last(*office, lengths()), [0, 60, 60, 2])
        self.assertEqual(last(*office, room(), put(1, 2), lengths()), [0, 60, 60, 2])

    def test_thirty(self):
        found = last(*OFFICE, *entered(*[[1, 6]] * 30), lengths())
        self.assertEqual(found, [0, 60, 60, 30, *[60, 60, 0] * 4, 60, 60, 30])


class ChangesNothing(unittest.TestCase):
    def test_asked_twice(self):
        office = [*OFFICE, *entered([1, 2], [2, 3]), adopt(1, 2, 3, 0, 0, 0)]
        asked = [papers(1), sitters(2), days(2), lengths(), papers(9), days(9), [19]]
        found = ask(*office, *asked, *asked)[len(office):]
        self.assertEqual(found[:7], found[7:])
        self.assertEqual(found[:3], [[0, 1, 1, 2, 2], [0, 1, 2], [0, 2, 1, 5, 1, 9, 0]])


if __name__ == "__main__":
    unittest.main()
