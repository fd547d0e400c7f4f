"""A second, slow reading of filters, straight from the words of the document.

A formula is a tuple: ("compare", name, sign, number), ("empty", name), ("every",), ("nothing",), ("~", f) or
(sign, f, g) with one of & | - ^. It is worked out by recursion, and compared with others entry by entry.
"""

import itertools

from filteredcopies.filters import Filter, compare, is_empty

SIGNS = ["=", "!=", "<", "<=", ">", ">="]
JOINTS = ["&", "|", "-", "^"]


def built(formula):
    """The filter of the package for a formula."""
    kind, *rest = formula
    if kind == "compare":
        return compare(*rest)
    if kind == "empty":
        return is_empty(*rest)
    if kind == "every":
        return Filter.every()
    if kind == "nothing":
        return Filter.nothing()
    parts = [built(part) for part in rest]
    if kind == "~":
        return ~parts[0]
    return {
        "&": lambda f, g: f & g, "|": lambda f, g: f | g, "-": lambda f, g: f - g, "^": lambda f, g: f ^ g,
    }[kind](*parts)


def truth_of(formula, key, cells):
    """The truth of a formula for an entry."""
    kind, *rest = formula
    if kind == "compare":
        return compared(rest[1], key if rest[0] == "key" else cells.get(rest[0]), rest[2])
    if kind == "empty":
        return rest[0] != "key" and cells.get(rest[0]) is None
    if kind in ("every", "nothing"):
        return kind == "every"
    one = truth_of(rest[0], key, cells)
    if kind == "~":
        return negated(one)
    other = truth_of(rest[1], key, cells)
    return joined(kind, one, other)


def compared(sign, cell, number):
    if cell is None:
        return None
    return {
        "=": cell == number, "!=": cell != number, "<": cell < number, "<=": cell <= number, ">": cell > number,
        ">=": cell >= number,
    }[sign]


def negated(truth):
    return None if truth is None else not truth


def joined(kind, one, other):
    if kind == "-":
        return joined("&", one, negated(other))
    if kind == "^":
        return None if one is None or other is None else one != other
    strong = kind == "|"
    if one is strong or other is strong:
        return strong
    return None if one is None or other is None else not strong


def parts_of(formula):
    """The comparisons and tests of a formula."""
    if formula[0] in ("compare", "empty"):
        return [formula]
    return [part for inner in formula[1:] for part in parts_of(inner)]


def mentions_of(*formulas):
    return sorted({part[1] for formula in formulas for part in parts_of(formula)})


def numbers_of(name, *formulas):
    return sorted({
        part[3] for formula in formulas for part in parts_of(formula) if part[0] == "compare" and part[1] == name
    })


def integers_around(name, *formulas):
    """All integers up to two beside the numbers of a name: with small numbers these show all that can happen."""
    numbers = numbers_of(name, *formulas) or [0]
    return list(range(min(numbers) - 2, max(numbers) + 3))


def entries(choices):
    """All entries with one of the given cells for each name."""
    names = sorted(choices)
    for cells in itertools.product(*[choices[name] for name in names]):
        entry = dict(zip(names, cells))
        yield entry.pop("key", 0), entry


def same(one, other):
    """Whether the same entries are in both formulas."""
    choices = {}
    for name in mentions_of(one, other):
        choices[name] = integers_around(name, one, other) + ([] if name == "key" else [None])
    return all(
        (truth_of(one, key, cells) is True) == (truth_of(other, key, cells) is True)
        for key, cells in entries(choices)
    )


def possible(formula, table, key, cells):
    """The outcomes for the key and these cells, as the interface describes them."""
    choices = {}
    for name in mentions_of(formula):
        if name == "key":
            choices[name] = [key]
        elif name not in table.names:
            choices[name] = [None]
        elif name in cells:
            choices[name] = [cells[name]]
        else:
            choices[name] = integers_around(name, formula) + ([None] if table.column(name).empty else [])
    found = {truth_of(formula, key, told) is True for key, told in entries(choices)}
    return tuple(sorted(found, reverse=True))


def random_formula(random, names, parts, most):
    """A formula with so many comparisons, tests, every and nothing, and with numbers from 0 to most."""
    if random.random() < 0.2:
        return ("~", random_formula(random, names, parts, most))
    if parts == 1:
        draw = random.random()
        if draw < 0.1:
            return (random.choice(["every", "nothing"]),)
        if draw < 0.25:
            return ("empty", random.choice(names))
        return ("compare", random.choice(names), random.choice(SIGNS), random.randint(0, most))
    left = random.randint(1, parts - 1)
    return (
        random.choice(JOINTS), random_formula(random, names, left, most),
        random_formula(random, names, parts - left, most),
    )
