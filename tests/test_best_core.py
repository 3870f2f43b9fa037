"""Points 11 and 12: best and core."""

import random
import time
import unittest

from tests import reference
from tests.support import (ahead, ask, best, candidate, core, enter, entered, last, open_office, paper, room, sitting,
                           withdraw)


def days(*numbers):
    return [sitting(day) for day in numbers]


def cores(*told):
    """The cores for k from 0 to 5."""
    return [last(*told, core(k)) for k in range(6)]


class Small(unittest.TestCase):
    def test_nothing_there(self):
        self.assertEqual(last(open_office(), best()), [0, 1, 0])
        self.assertEqual(cores(open_office()), [[0, 0]] * 6)

    def test_no_papers(self):
        told = [open_office(), *days(1, 2), room(), candidate(1)]
        self.assertEqual(last(*told, best()), [0, 1, 0])
        self.assertEqual(cores(*told), [[0, 0]] * 6)

    def test_no_sittings(self):
        told = [open_office(), paper(), paper(), room()]
        self.assertEqual(last(*told, best()), [0, 0])
        self.assertEqual(cores(*told), [[0, 1, 1]] * 6)

    def test_no_rooms(self):
        told = [open_office(), *days(1), paper(), paper()]
        self.assertEqual(last(*told, best()), [0, 1, 1, 1, 1])
        self.assertEqual(last(*told, candidate(1), best()), [0, 1, 1, 1, 1])
        self.assertEqual(last(*told, candidate(1), enter(1, 2), best()), [0, 0])
        self.assertEqual(cores(*told, candidate(1), enter(1, 2)), [[0, 1, 1]] + [[0, 1, 2]] * 5)

    def test_one_paper(self):
        told = [open_office(), *days(1, 2), paper(), room(), *entered([1])]
        self.assertEqual(last(*told, best()), [0, 1, 1, 1])
        self.assertEqual(cores(*told), [[0, 1, 1]] + [[0, 0]] * 5)

    def test_papers_that_do_not_clash(self):
        told = [open_office(), *days(1, 2, 3), *[paper()] * 3, room(), *entered([1], [2], [3])]
        self.assertEqual(last(*told, best()), [0, 1, 1, 1, 1, 1])
        self.assertEqual(cores(*told), [[0, 1, 1]] + [[0, 0]] * 5)

    def test_papers_that_clash(self):
        told = [open_office(), *days(1, 2, 3), *[paper()] * 3, room(), *entered([1, 3], [2])]
        self.assertEqual(last(*told, best()), [0, 1, 2, 1, 1, 2])
        self.assertEqual(cores(*told), [[0, 1, 1], [0, 1, 1, 3]] + [[0, 0]] * 4)

    def test_all_clash(self):
        told = [*[paper()] * 6, room(), *entered([1, 2, 3, 4, 5, 6])]
        full = [open_office(4), *days(1, 2, 3, 4, 5), *told]
        self.assertEqual(last(*full, best()), [0, 0])
        self.assertEqual(cores(*full), [[0, 1, *range(1, k + 2)] for k in range(6)])
        self.assertEqual(last(*full, withdraw(1, 1), best()), [0, 1, 5, 1, 1, 2, 3, 4, 5])
        self.assertEqual(last(*full, withdraw(1, 1), core(4)), [0, 1, 2, 3, 4, 5, 6])

    def test_withdrawn_entry_clashes_no_more(self):
        told = [open_office(), *days(1, 2), paper(), paper(), room(), *entered([1, 2])]
        self.assertEqual(last(*told, best()), [0, 1, 2, 1, 2])
        self.assertEqual(last(*told, withdraw(1, 2), best()), [0, 1, 1, 1, 1])

    def test_asking_changes_nothing(self):
        told = [open_office(), *days(1, 2), paper(), paper(), room(), *entered([1, 2])]
        found = ask(*told, best(), core(1), best())
        self.assertEqual(found[-3:], [[0, 1, 2, 1, 2], [0, 1, 1, 2], [0, 1, 2, 1, 2]])


class Lengths(unittest.TestCase):
    def test_paper_must_fit(self):
        told = [open_office(), sitting(1, 0, 59), sitting(2, 0, 60), sitting(3, 0, 61)]
        self.assertEqual(last(*told, paper(60), best()), [0, 1, 1, 2])
        self.assertEqual(last(*told, paper(61), best()), [0, 1, 1, 3])
        self.assertEqual(last(*told, paper(62), best()), [0, 0])
        self.assertEqual(last(*told, paper(60), paper(62), core(5)), [0, 1, 2])

    def test_extra_time_must_fit(self):
        told = [open_office(), sitting(1, 0, 72), sitting(2, 0, 73), paper(60), room(0), room(1), candidate(1, 21)]
        self.assertEqual(last(*told, best()), [0, 1, 1, 1])
        self.assertEqual(last(*told, enter(1, 1), best()), [0, 1, 1, 2])
        self.assertEqual(last(*told, enter(1, 1), withdraw(1, 1), best()), [0, 1, 1, 1])

    def test_the_longest_of_all_counts(self):
        told = [open_office(), sitting(1, 0, 119), paper(60), room(0), room(1, [10])]
        everybody = [candidate(1, 10), candidate(2, 99), candidate(3, 0), candidate(4, 100)]
        some = [enter(1, 1), enter(2, 1), enter(3, 1)]
        self.assertEqual(last(*told, *everybody, *some, best()), [0, 0])
        self.assertEqual(last(*told, sitting(2, 0, 120), *everybody, *some, enter(4, 1), best()), [0, 1, 1, 2])

    def test_more_sittings_where_lengths_differ(self):
        told = [open_office(), sitting(1, 0, 30), sitting(2, 0, 60), paper(60), paper(30)]
        self.assertEqual(last(*told, best()), [0, 1, 1, 2, 2])


class Orders(unittest.TestCase):
    def test_ahead_is_in_an_earlier_sitting(self):
        told = [open_office(), *days(1, 2, 3), *[paper()] * 3]
        self.assertEqual(last(*told, ahead(2, 1), best()), [0, 1, 2, 2, 1, 1])
        self.assertEqual(last(*told, ahead(3, 2), ahead(2, 1), best()), [0, 1, 3, 3, 2, 1])
        self.assertEqual(cores(*told, ahead(3, 2)), [[0, 1, 1], [0, 1, 2, 3]] + [[0, 0]] * 4)

    def test_two_sittings_of_one_day_are_earlier_and_later(self):
        told = [open_office(), sitting(1, 0, 60), sitting(1, 60, 60), paper(), paper(), ahead(2, 1)]
        self.assertEqual(last(*told, best()), [0, 1, 2, 2, 1])

    def test_ring(self):
        told = [open_office(), *days(1, 2, 3, 4, 5), *[paper()] * 4]
        ring = [ahead(1, 3), ahead(3, 4), ahead(4, 1)]
        self.assertEqual(last(*told, *ring, best()), [0, 0])
        self.assertEqual(last(*told, *ring, core(5)), [0, 1, 1, 3, 4])
        self.assertEqual(last(*told, ahead(2, 4), ahead(4, 2), best()), [0, 0])
        self.assertEqual(last(*told, ahead(2, 4), ahead(4, 2), core(5)), [0, 1, 2, 4])

    def test_too_few_sittings(self):
        told = [open_office(), *days(1, 2), *[paper()] * 3, ahead(1, 2), ahead(2, 3)]
        self.assertEqual(last(*told, best()), [0, 0])
        self.assertEqual(cores(*told), [[0, 1, 1], [0, 1, 1, 2]] + [[0, 1, 1, 2, 3]] * 4)

    def test_chain_does_not_bind_papers_whose_middle_is_left_out(self):
        # 1 ahead of 2 ahead of 3: the set 1, 3 alone has no order between its papers.
        told = [open_office(), *days(1, 2), *[paper()] * 3, ahead(1, 2), ahead(2, 3)]
        self.assertEqual(last(*told, core(1)), [0, 1, 1, 2])
        self.assertEqual(last(open_office(), *days(1), *[paper()] * 3, ahead(1, 2), ahead(2, 3), core(5)),
                         [0, 1, 1, 2])


class PerDay(unittest.TestCase):
    def two_days(self, per_day):
        return [open_office(per_day), sitting(1, 0), sitting(1, 60), sitting(2, 0), *[paper()] * 3, room()]

    def test_one_a_day(self):
        told = self.two_days(1)
        self.assertEqual(last(*told, *entered([1, 2]), best()), [0, 1, 2, 1, 3, 1])
        self.assertEqual(last(*told, *entered([1, 2, 3]), best()), [0, 0])
        self.assertEqual(last(*told, *entered([1, 2, 3]), core(5)), [0, 1, 1, 2, 3])

    def test_two_a_day(self):
        self.assertEqual(last(*self.two_days(2), *entered([1, 2, 3]), best()), [0, 1, 3, 1, 2, 3])

    def test_each_candidate_for_themselves(self):
        self.assertEqual(last(*self.two_days(1), *entered([1, 2], [3]), best()), [0, 1, 2, 1, 3, 1])

    def test_sittings_of_one_day(self):
        hours = [sitting(1, 60 * n) for n in range(5)]
        for per_day in range(1, 5):
            told = [open_office(per_day), *hours, *[paper()] * 5, room(), *entered([1, 2, 3, 4, 5])]
            self.assertEqual(last(*told, best()), [0, 0])
            self.assertEqual(last(*told, core(5)), [0, 1, *range(1, per_day + 2)])
            fewer = [withdraw(1, p) for p in range(per_day + 1, 6)]
            self.assertEqual(last(*told, *fewer, best())[:3], [0, 1, per_day])

    def test_beyond_its_day_counts_where_it_begins(self):
        told = [open_office(1), sitting(1, 1439, 600), sitting(2, 0), paper(), paper(), room(), *entered([1, 2])]
        self.assertEqual(last(*told, best()), [0, 1, 2, 1, 2])


class Seats(unittest.TestCase):
    def one_paper(self, rooms, how_many):
        return last(open_office(), sitting(), paper(), *rooms, *entered(*[[1]] * how_many), best())

    def two_papers(self, rooms, first, second):
        people = entered(*[[1]] * first, *[[2]] * second)
        return last(open_office(), sitting(), paper(), paper(), *rooms, *people, best())

    def test_one_paper_in_one_row(self):
        for seats in range(1, 11):
            enough = (seats + 1) // 2
            self.assertEqual(self.one_paper([room(0, [seats])], enough), [0, 1, 1, 1])
            self.assertEqual(self.one_paper([room(0, [seats])], enough + 1), [0, 0])

    def test_rows_and_rooms_are_not_beside_one_another(self):
        self.assertEqual(self.one_paper([room(0, [1, 1, 1])], 3), [0, 1, 1, 1])
        self.assertEqual(self.one_paper([room(0, [1, 1]), room(0, [3])], 4), [0, 1, 1, 1])
        self.assertEqual(self.one_paper([room(0, [1, 1]), room(0, [3])], 5), [0, 0])

    def test_full_row_of_two_papers(self):
        self.assertEqual(self.two_papers([room(0, [5])], 3, 2), [0, 1, 1, 1, 1])
        self.assertEqual(self.two_papers([room(0, [5])], 2, 3), [0, 1, 1, 1, 1])
        self.assertEqual(self.two_papers([room(0, [5])], 4, 1), [0, 0])
        self.assertEqual(self.two_papers([room(0, [5])], 3, 3), [0, 0])

    def test_odd_rows_turned_about(self):
        self.assertEqual(self.two_papers([room(0, [3, 3, 3])], 5, 4), [0, 1, 1, 1, 1])
        self.assertEqual(self.two_papers([room(0, [3, 3, 3])], 6, 3), [0, 1, 1, 1, 1])
        self.assertEqual(self.two_papers([room(0, [3, 3, 3])], 7, 2), [0, 0])

    def test_another_sitting_where_seats_do_not_suffice(self):
        told = [open_office(), *days(1, 2), paper(), paper(), room(0, [3]), *entered([1], [1], [2], [2])]
        self.assertEqual(last(*told, best()), [0, 1, 2, 1, 2])
        self.assertEqual(last(*told, core(1)), [0, 1, 1, 2])

    def test_quiet_and_plain_apart(self):
        told = [open_office(), sitting(1, 0, 120), paper(), candidate(1), candidate(2, 1), enter(1, 1), enter(2, 1)]
        self.assertEqual(last(*told, room(0), best()), [0, 0])
        self.assertEqual(last(*told, room(1), best()), [0, 0])
        self.assertEqual(last(*told, room(0, [1]), room(1, [1]), best()), [0, 1, 1, 1])

    def test_quiet_seats_only_just(self):
        told = [open_office(), sitting(1, 0, 120), paper(), paper(), room(0, [10]), room(1, [2, 1])]
        four = [candidate(who, 100) for who in range(1, 5)]
        self.assertEqual(last(*told, *four, enter(1, 1), enter(2, 1), enter(3, 2), best()), [0, 1, 1, 1, 1])
        self.assertEqual(last(*told, *four, *[enter(who, 1) for who in (1, 2, 3)], best()), [0, 0])
        entries = [enter(1, 1), enter(2, 1), enter(3, 2), enter(4, 2)]
        self.assertEqual(last(*told, *four, *entries, best()), [0, 0])
        self.assertEqual(last(*told, *four, *entries, core(5)), [0, 1, 1, 2])

    def test_whoever_is_not_entered_wants_no_seat(self):
        told = [open_office(), sitting(), paper(), room(0, [1]), *entered([1], [], [])]
        self.assertEqual(last(*told, best()), [0, 1, 1, 1])


class AmongEquals(unittest.TestCase):
    def test_first_paper_has_the_least_sitting_then_the_second(self):
        told = [open_office(), *days(1, 2, 3), *[paper()] * 4, room(), *entered([1, 2], [3, 4], [2, 3])]
        self.assertEqual(last(*told, best()), [0, 1, 2, 1, 2, 1, 2])

    def test_fewest_sittings_come_before_least_numbers(self):
        # Paper 1 could be in sitting 1, but paper 2 only in sitting 2: both in 2 uses one sitting alone.
        told = [open_office(), sitting(1, 0, 60), sitting(2, 0, 90), paper(60), paper(90)]
        self.assertEqual(last(*told, best()), [0, 1, 1, 2, 2])

    def test_smaller_sets_come_first(self):
        told = [open_office(), *days(1, 2), *[paper()] * 4, room(), *entered([1, 2, 3]), paper(61)]
        self.assertEqual(last(*told, core(2)), [0, 1, 5])
        self.assertEqual(last(*told, core(0)), [0, 1, 1])
        self.assertEqual(last(*told, core(1)), [0, 1, 5])

    def test_of_one_size_the_first_paper_comes_first(self):
        told = [open_office(), *days(1, 2), *[paper()] * 5, room()]
        self.assertEqual(last(*told, *entered([2, 3], [1, 5]), core(1)), [0, 1, 1, 5])
        self.assertEqual(last(*told, *entered([3, 4], [2, 5]), core(1)), [0, 1, 2, 5])
        self.assertEqual(last(*told, *entered([1, 5], [1, 4]), core(1)), [0, 1, 1, 4])
        self.assertEqual(last(*told, *entered([2, 3, 4], [1, 4, 5]), core(2)), [0, 1, 1, 4, 5])

    def test_k_from_0_to_5(self):
        told = [open_office(), *days(1, 2, 3, 4, 5), *[paper()] * 6, room(), *entered([2, 4, 5, 6], [1, 3])]
        wanted = [[0, 1, 1], [0, 1, 1, 3], [0, 1, 2, 4, 5], [0, 1, 2, 4, 5, 6], [0, 0], [0, 0]]
        self.assertEqual(cores(*told), wanted)


def any_office(source, most_sittings=4, most_papers=5):
    sittings = sorted([(source.randint(1, 3), source.choice((50, 60, 90))) for n in range(most_sittings)])
    sittings = sittings[:source.randint(1, most_sittings)]
    papers = [source.choice((20, 40, 50, 60, 61)) for n in range(source.randint(1, most_papers))]
    rooms = [(source.choice((0, 0, 1)), tuple(source.randint(1, 4) for n in range(source.randint(1, 2))))
             for n in range(source.randint(1, 4))]
    candidates = []
    for n in range(source.randint(0, 7)):
        entered_for = [p for p in range(1, len(papers) + 1) if source.random() < 0.35]
        candidates.append((source.choice((0, 0, 0, 10, 25)), entered_for))
    pairs = [(p, q) for p in range(1, len(papers) + 1) for q in range(1, len(papers) + 1) if p != q]
    orders = source.sample(pairs, min(len(pairs), source.choice((0, 0, 1, 2))))
    return {"per_day": source.choice((1, 2, 2, 3)), "sittings": sittings, "papers": papers, "rooms": rooms,
            "candidates": candidates, "orders": orders}


class AgainstTheWords(unittest.TestCase):
    """The same seed each time: the same offices each time."""

    def test_many_offices(self):
        source = random.Random(2026)
        used = {}
        sizes = {}
        for n in range(400):
            office = any_office(source)
            told = reference.calls_of(office)
            k = n % 6
            found = ask(*told, best(), core(k))[-2:]
            self.assertEqual(found, [reference.best(office), reference.core(office, k)], (office, k))
            used[tuple(found[0][1:3])] = True
            sizes[len(found[1]) - 2] = True
        self.assertEqual(sorted(used), [(0,), (1, 1), (1, 2), (1, 3), (1, 4)])
        self.assertEqual(sorted(sizes), [0, 1, 2, 3, 4])


class Full(unittest.TestCase):
    """Offices as full as can be, each line with three of best and core; the times are far above what is wanted."""

    def check_quick(self, told, asked):
        begun = time.perf_counter()
        found = ask(*told, *asked)[-len(asked):]
        self.assertLess(time.perf_counter() - begun, 20)
        return found

    def full_office(self, per_day, entries, orders, minutes=600, rows=(10,) * 6):
        office = {"per_day": per_day, "sittings": [(day, minutes) for day in (1, 1, 2, 2, 3)], "papers": [300] * 6,
                  "rooms": [(0, rows), (0, rows), (1, rows), (1, rows)],
                  "candidates": [(100 * (who % 2), entries(who)) for who in range(30)], "orders": orders}
        told = reference.calls_of(office)
        self.assertLessEqual(len(told) + 3, 200)
        return told

    def test_chain_of_orders(self):
        pairs = [(p, q) for p in range(1, 7) for q in range(p + 1, 7)][:10]
        told = self.full_office(2, lambda who: [1 + who % 6, 1 + (who + 3) % 6], pairs)
        found = self.check_quick(told, [best(), core(4), core(2)])
        self.assertEqual(found, [[0, 1, 4, 1, 2, 3, 4, 3, 4], [0, 0], [0, 1, 1, 2, 3]])

    def test_seats_for_few_papers_at_a_time(self):
        told = self.full_office(4, lambda who: [1 + who % 6], [(6, p) for p in range(1, 6)], rows=(1,) * 6)
        found = self.check_quick(told, [best(), core(5), core(2)])
        self.assertEqual(found, [[0, 1, 3, 2, 2, 2, 2, 3, 1], [0, 0], [0, 1, 1, 3, 5, 6]])

    def test_against_the_words(self):
        source = random.Random(6)
        pairs = [(p, q) for p in range(1, 7) for q in range(p + 1, 7)]
        for n in range(6):
            rows = tuple(source.choice((1, 1, 2, 3)) for row in range(6))
            entries = [sorted(source.sample(range(1, 7), source.choice((1, 1, 2)))) for who in range(30)]
            office = {"per_day": 1 + n % 3, "sittings": [(day, 120) for day in (1, 1, 2, 3, 3)], "papers": [60] * 6,
                      "rooms": [(0, rows), (0, rows), (0, rows), (1, rows)],
                      "candidates": [(100 * (who % 4 == 0), entries[who]) for who in range(30)],
                      "orders": source.sample(pairs, 10 if n % 2 else 2)}
            told = reference.calls_of(office)
            found = self.check_quick(told, [best(), core(4), core(2)])
            wanted = [reference.best(office), reference.core(office, 4), reference.core(office, 2)]
            self.assertEqual(found, wanted, office)

    def test_only_the_last_paper_finds_no_place(self):
        pairs = [(5, 6), (6, 5)]
        told = self.full_office(4, lambda who: [6], pairs)
        found = self.check_quick(told, [best(), core(5), core(1)])
        self.assertEqual(found, [[0, 0], [0, 1, 5, 6], [0, 1, 5, 6]])

    def test_nothing_is_in_the_way(self):
        told = self.full_office(4, lambda who: [1 + who % 6], [])
        found = self.check_quick(told, [best(), core(5), core(0)])
        self.assertEqual(found, [[0, 1, 1, 1, 1, 1, 1, 1, 1], [0, 0], [0, 1, 1]])


if __name__ == "__main__":
    unittest.main()
