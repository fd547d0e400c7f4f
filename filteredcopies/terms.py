"""Working out the truth of filters, for many entries at once.

The entries stand for the bits of a mask. A truth of each entry is a pair of masks: the entries for which it is
True and those for which it is False; it is None for those in neither. So a filter with many numbers is worked
out for thousands of entries by a few operations on integers, and for one entry by the same ones.

A filter is a list of terms (sign, name, number). A term is a part of the filter or puts together the truths in
front of it: "~" the last one, "&", "|" and "^" the last two. So no filter is nested too deep to be worked out.
"""

# The places of a cell that a sign accepts: below the number (-1), at it (0) or above it (1).
SIGNS = {"=": (0,), "!=": (-1, 1), "<": (-1,), "<=": (-1, 0), ">": (1,), ">=": (0, 1)}
EMPTY = "empty"
EVERY = "every"
NOTHING = "nothing"
NOT = "~"
AND = "&"
OR = "|"
XOR = "^"


def weigh(terms, grid, full):
    """The pair of masks for terms.

    grid has for each name the cells that occur, each with the mask of its entries; full is the mask of all.
    """
    pairs = []
    for sign, name, number in terms:
        if sign == EVERY:
            pairs.append((full, 0))
        elif sign == NOTHING:
            pairs.append((0, full))
        elif sign == NOT:
            yes, no = pairs.pop()
            pairs.append((no, yes))
        elif sign in (AND, OR, XOR):
            other = pairs.pop()
            one = pairs.pop()
            pairs.append(_joined(sign, one, other))
        else:
            pairs.append(_tested(sign, number, grid[name]))
    return pairs.pop()


def _joined(sign, one, other):
    """The pair of masks of two truths that are put together."""
    one_yes, one_no = one
    other_yes, other_no = other
    if sign == AND:
        return one_yes & other_yes, one_no | other_no
    if sign == OR:
        return one_yes | other_yes, one_no & other_no
    differ = (one_yes & other_no) | (one_no & other_yes)
    agree = (one_yes & other_yes) | (one_no & other_no)
    return differ, agree


def _tested(sign, number, cells):
    """The pair of masks of a comparison or a test for emptiness."""
    yes = 0
    no = 0
    for cell, mask in cells:
        truth = _cell_truth(sign, number, cell)
        if truth is True:
            yes = yes | mask
        elif truth is False:
            no = no | mask
    return yes, no


def _cell_truth(sign, number, cell):
    """The truth of a comparison or a test for emptiness for one cell."""
    if sign == EMPTY:
        return cell is None
    if cell is None:
        return None
    place = (cell > number) - (cell < number)
    return place in SIGNS[sign]
