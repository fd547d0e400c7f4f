"""Grids: few entries that stand for all, and their masks.

Choices are a dict from names to the cells that each can have. A grid has an entry for each way to choose one
cell for every name.
"""

# So many entries may be looked at by masks of one grid.
MANY_ENTRIES = 1000


def samples(numbers):
    """Integers such that each other one compares with all of these numbers as one of them does."""
    if not numbers:
        return [0]
    # The integer behind each number stands for the gap there; if there is none, it is the next number itself.
    behind = [number + 1 for number in numbers]
    return sorted(set([min(numbers) - 1] + numbers + behind))


def cells_between(numbers, empty):
    """Integers that stand for all others beside the numbers, and None if the cell may be empty."""
    if empty:
        return [None] + samples(numbers)
    return samples(numbers)


def slices(choices):
    """A list of choices that have together the entries of these; in each of them there are not many."""
    longest = None
    many = 1
    for name in choices:
        many = many * len(choices[name])
        if longest is None or len(choices[name]) > len(choices[longest]):
            longest = name
    if many <= MANY_ENTRIES:
        return [choices]
    # Masks of all entries could have thousands of digits; those with one cell for the longest name stay short.
    return [{**choices, longest: [cell]} for cell in choices[longest]]


def spread(choices):
    """A tuple (grid, full): for each name its cells, each with the mask of its entries; the mask of all entries."""
    grid = {}
    many = 1
    for name in choices:
        cells = choices[name]
        # The entries so far stand there once for each cell of this name, one block of them after the other.
        blocks = sum([1 << many * at for at in range(len(cells))])
        for other in list(grid):
            grid[other] = [(cell, mask * blocks) for cell, mask in grid[other]]
        block = (1 << many) - 1
        grid[name] = [(cell, block << many * at) for at, cell in enumerate(cells)]
        many = many * len(cells)
    return grid, (1 << many) - 1
