import unittest
from itertools import product

from heirturns.errors import NoNumber
from heirturns.rows import how_many_rows, nth_row, number_of_row
from tests.calls import Calls
from tests.models import GREAT, rows


def kept(bounds):
    """The rows whose beginnings keep within the bounds, tried out."""
    return [
        row for row in rows(len(bounds) - 1)
        if all(low <= row[:at].count("a") <= high for at, (low, high) in enumerate(bounds))
    ]


def all_bounds(size):
    """Bounds of so many turns, empty ones among them."""
    pairs = [[(low, high) for low in range(at + 1) for high in range(low - 1, at + 1)] for at in range(1, size + 1)]
    return [[(0, 0)] + list(told) for told in product(*pairs)]


class RowsTest(Calls):
    def test_all_bounds(self):
        for bounds in [own for size in range(4) for own in all_bounds(size)]:
            found = kept(bounds)
            self.assertEqual(how_many_rows(bounds), len(found))
            self.assertEqual([nth_row(bounds, at) for at in range(len(found))], found)
            for row in rows(len(bounds) - 1):
                number = found.index(row) if row in found else None
                self.assertEqual(number_of_row(bounds, row), number)
            for number in (-GREAT, -1, len(found), len(found) + 1, GREAT):
                self.assert_raises(NoNumber, {"number": number}, nth_row, bounds, number)


if __name__ == "__main__":
    unittest.main()
