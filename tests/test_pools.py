"""The helpers of the searches: the few keys and rows that stand for all, and trails."""

import itertools
import unittest

from filteredcopies.filters import compare, is_empty
from filteredcopies.networks import Feed, Network, Target
from filteredcopies.pools import Pool, Pools
from filteredcopies.tables import Column, Table
from filteredcopies.trails import Trail


class OneColumn(unittest.TestCase):
    def place(self, cell, numbers):
        """Where a cell lies among the numbers."""
        return None if cell is None else tuple((cell > number) - (cell < number) for number in numbers)

    def alike(self, one, other, numbers):
        """Whether two tuples of cells lie in the same places and have the same equal cells."""
        if [self.place(cell, numbers) for cell in one] != [self.place(cell, numbers) for cell in other]:
            return False
        pairs = list(itertools.combinations(range(len(one)), 2))
        return all((one[i] == one[j]) == (other[i] == other[j]) for i, j in pairs)

    def test_cells_near_others_stand_for_all(self):
        for numbers in ([], [0], [0, 1], [0, 2], [0, 3, 7]):
            for empty in (False, True):
                pool = Pool(numbers, 3, empty)
                for cells in itertools.product(pool.near(()), repeat=2):
                    found = [(*cells, cell) for cell in pool.near(cells)]
                    # Other integers than those of the pool, far away too.
                    for cell in [*range(-6, 14), 10 ** 39, *([None] if empty else [])]:
                        self.assertEqual(sum(self.alike((*cells, cell), told, numbers) for told in found), 1)

    def test_shapes_are_the_same_just_for_cells_that_are_alike(self):
        for numbers in ([], [0], [0, 2], [0, 3]):
            pool = Pool(numbers, 3, False)
            cells = [None, *range(-3, 0), *numbers, *[cell for cell in (1, 2) if cell not in numbers and numbers == [0, 3]]]
            known = [cell for cell in cells if cell is None or self.known(pool, cell)]
            triples = list(itertools.product(known, repeat=3))
            for one in triples:
                for other in triples[::3]:
                    same = pool.shape(one) == pool.shape(other)
                    self.assertIs(same, self.alike(one, other, numbers), (numbers, one, other))

    def known(self, pool, cell):
        """Whether the pool tries this integer, when it is asked for three different ones."""
        first = pool.near(())
        second = pool.near(tuple(first))
        return cell in first + second + pool.near(tuple(first + second))


class Rows(unittest.TestCase):
    table = Table.of(Column("a", fixed=True), Column("b", empty=True))
    network = Network.of(
        table, Target("x", ["b"]), Feed("table", "x", where=compare("key", "<", 3) & compare("a", "=", 5) | is_empty("b")),
    )

    def test_keys(self):
        pools = Pools([self.network], [("a", "b")])
        self.assertEqual([[key < 3, key == 3] for key in pools.key_samples], [[True, False], [False, True], [False, False]])
        other = self.network.with_filter(0, compare("key", "<", 9))
        self.assertEqual(len(Pools([self.network, other], [("a", "b")]).key_samples), 5)

    def test_a_fixed_cell_stays_and_a_row_that_is_not_there_is_not_removed(self):
        pools = Pools([self.network], [("a", "b"), ("b",)])
        first = pools.rows_after([None, None])
        self.assertNotIn(None, first)
        self.assertEqual({row[0] for row in first}, {4, 5, 6})
        after = pools.rows_after([(5, 0), (0,)])
        self.assertIn(None, after)
        self.assertEqual({row[0] for row in after if row is not None}, {5})
        self.assertEqual([row for row in after if row is not None], pools.rows_near([(5, 0), (0,)]))
        self.assertEqual({row[0] for row in pools.rows_near([None, (0,)])}, {4, 5, 6})

    def test_shapes_tell_rows_from_none(self):
        pools = Pools([self.network], [("a", "b"), ("b",)])
        self.assertNotEqual(pools.shape([(5, None), (None,)]), pools.shape([(5, None), None]))
        self.assertNotEqual(pools.shape([(5, 0), (0,)]), pools.shape([(5, 0), (1,)]))
        self.assertEqual(pools.shape([(4, 0), (1,)]), pools.shape([(3, 1), (0,)]))


class Trails(unittest.TestCase):
    def test_the_first_way_to_each_shape_is_kept(self):
        trail = Trail()
        for shape, state, former, step in (
            (1, "a", None, None), (2, "b", None, 7), (3, "c", 0, 8), (1, "d", 2, 9), (3, "e", 1, 9), (4, "f", 2, 9),
        ):
            trail.meet(shape, state, former, step)
        self.assertEqual([trail.state(at) for at in range(4)], ["a", "b", "c", "f"])
        self.assertEqual([trail.steps(at) for at in range(4)], [[None], [7], [None, 8], [None, 8, 9]])

    def test_a_search_goes_on_from_states_that_are_met_meanwhile(self):
        trail = Trail()
        trail.meet(5, 5, None, None)
        asked = []
        def go_on(at):
            asked.append(trail.state(at))
            for state in (asked[-1] + 3, asked[-1] - 1):
                trail.meet(state, state, at, state)
            return "found" if asked[-1] in last else None
        last = [7]
        self.assertEqual(trail.search(go_on), (4, "found"))
        self.assertEqual(asked, [5, 8, 4, 11, 7])
        self.assertEqual(trail.steps(4), [None, 8, 7])
        one = Trail()
        one.meet(1, "a", None, None)
        self.assertIsNone(one.search(lambda at: None))
        self.assertIsNone(Trail().search(go_on))


if __name__ == "__main__":
    unittest.main()
