"""The helpers of the filters: samples of the integers, and grids of entries."""

import unittest

from filteredcopies.filters import Filter, compare, is_empty
from filteredcopies.grids import samples, slices, spread


class Samples(unittest.TestCase):
    def places(self, integer, numbers):
        return [(integer > number) - (integer < number) for number in numbers]

    def test_each_integer_compares_as_a_sample_does(self):
        for numbers in ([], [0], [3, 4], [0, 2], [5, -5, 1, 1, 2]):
            found = [self.places(sample, numbers) for sample in samples(numbers)]
            for integer in range(-10, 11):
                self.assertEqual(found.count(self.places(integer, numbers)), 1)


class Grids(unittest.TestCase):
    def entries(self, choices):
        """The entries of the grids of all slices, read off their masks."""
        found = []
        for part in slices(choices):
            grid, full = spread(part)
            for at in range(full.bit_length()):
                cells = {name: [cell for cell, mask in grid[name] if mask >> at & 1] for name in grid}
                self.assertTrue(all(len(told) == 1 for told in cells.values()))
                found.append(tuple(cells[name][0] for name in sorted(cells)))
        return found

    def test_each_entry_once(self):
        self.assertEqual(self.entries({}), [()])
        self.assertEqual(self.entries({"a": [1, None, 2]}), [(1,), (None,), (2,)])
        choices = {"b": [1, 2], "a": [3, 4, None, 5], "c": [6, 7, 8]}
        expected = [(a, b, c) for a in choices["a"] for b in choices["b"] for c in choices["c"]]
        self.assertEqual(sorted(map(repr, self.entries(choices))), sorted(map(repr, expected)))

    def test_masks_stay_short(self):
        choices = {name: list(range(23)) for name in ("a", "b", "c")}
        for part in slices(choices):
            _, full = spread(part)
            self.assertEqual(full, 2 ** (23 * 23) - 1)


class Masks(unittest.TestCase):
    def test_entries_that_are_true_and_false(self):
        grid, full = spread({"a": [1, None, 2]})
        self.assertEqual(compare("a", "=", 2).masks(grid, full), (0b100, 0b001))
        self.assertEqual((~compare("a", "=", 2)).masks(grid, full), (0b001, 0b100))
        self.assertEqual(is_empty("a").masks(grid, full), (0b010, 0b101))
        self.assertEqual(Filter.every().masks(grid, full), (0b111, 0))


if __name__ == "__main__":
    unittest.main()
