"""Point 10: clashes."""

import unittest

from tests.support import candidate, clashes, entered, last, open_office, paper, withdraw


class Clashes(unittest.TestCase):
    def test_nothing_there(self):
        self.assertEqual(last(open_office(), clashes()), [0])

    def test_nobody_entered(self):
        self.assertEqual(last(open_office(), *[paper()] * 6, candidate(1), clashes()), [0])

    def test_one_paper_each(self):
        self.assertEqual(last(open_office(), *[paper()] * 2, *entered([1], [2], [1]), clashes()), [0])

    def test_counts(self):
        told = [paper()] * 3 + entered([1, 2], [2, 1], [2, 3], [3])
        self.assertEqual(last(open_office(), *told, clashes()), [0, 1, 2, 2, 2, 3, 1])

    def test_order(self):
        told = [paper()] * 4 + entered([4, 3], [3, 2], [4, 1], [2, 1])
        self.assertEqual(last(open_office(), *told, clashes()), [0, 1, 2, 1, 1, 4, 1, 2, 3, 1, 3, 4, 1])

    def test_withdrawn(self):
        told = [paper()] * 2 + entered([1, 2], [1, 2])
        self.assertEqual(last(open_office(), *told, withdraw(1, 2), clashes()), [0, 1, 2, 1])
        self.assertEqual(last(open_office(), *told, withdraw(1, 2), withdraw(2, 1), clashes()), [0])

    def test_all_six(self):
        told = [paper()] * 6 + entered([6, 5, 4, 3, 2, 1], [1, 2, 3, 4, 5, 6])
        pairs = [[p, q, 2] for p in range(1, 7) for q in range(p + 1, 7)]
        self.assertEqual(last(open_office(), *told, clashes()), [0] + sum(pairs, []))

    def test_thirty_in_common(self):
        told = [paper()] * 2 + entered(*[[1, 2]] * 30)
        self.assertEqual(last(open_office(), *told, clashes()), [0, 1, 2, 30])


if __name__ == "__main__":
    unittest.main()
