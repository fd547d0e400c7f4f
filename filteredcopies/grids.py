"""Grids: few entries that stand for all, and their masks.

Choices are a dict from names to the cells that each can have. A grid has an entry for each way to choose one
cell for every name.
"""


def samples(numbers):
    """Integers such that each other one compares with all of these numbers as one of them does."""
    if not numbers:
        return [0]
    # The integer behind each number stands for the gap there; if there is none, it is the next number itself.
    behind = [number + 1 for number in numbers]
    return sorted(set([min(numbers) - 1] + numbers + behind))


def slices(choices):
    """A list of choices that have together the entries of these, each with one cell for the longest name."""
    longest = None
    for name in choices:
        if longest is None or len(choices[name]) > len(choices[longest]):
            longest = name
    if longest is None:
        return [choices]
    # Masks of all entries could have thousands of digits; sliced ones stay short.
    return [{**choices, longest: [cell]} for cell in choices[longest]]


def spread(choices):
    """A tuple (grid, full): for each name its cells, each with the mask of its entries; the mask of all entries."""
    grid = {}
    many = 1
    for name in choices:
        cells = choices[name]
        # The entries so far stand there once for each cell of this name, one block of them after the other.
        blocks = sum([1 << many * at for at in range(len(cells))])
        for other in list(grid):
            grid[other] = [(cell, mask * blocks) for cell, mask in grid[other]]
        block = (1 << many) - 1
        grid[name] = [(cell, block << many * at) for at, cell in enumerate(cells)]
        many = many * len(cells)
    return grid, (1 << many) - 1
