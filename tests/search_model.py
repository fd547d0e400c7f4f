"""A second, slow reading of the promises over all histories: each state of one key over some integers is looked at.

The networks are those of `run_model`. The integers reach so far beside the numbers of the formulas that in each gap
there are as many as a state has cells of a column, and one more: with more of them nothing else can happen.
"""

import itertools

import model
from run_model import Stop


def spread(name, formulas, beside):
    """The numbers of a name in formulas, all between them, and so many integers beside them."""
    numbers = model.numbers_of(name, *formulas) or [0]
    return list(range(min(numbers) - beside, max(numbers) + beside + 1))


class Space:
    """The keys and rows of one or more networks over one table, over enough integers."""

    def __init__(self, runs, cells):
        formulas = [feed[2] for run in runs for feed in run.feeds]
        self.columns = runs[0].columns
        self.keys = spread("key", formulas, 1)
        self.cells = {
            name: spread(name, formulas, cells + 1) + ([None] if empty else []) for name, _, _, empty in self.columns
        }

    def rows(self):
        return [dict(zip(self.cells, cells)) for cells in itertools.product(*self.cells.values())]

    def after(self, row):
        """What a row, or None, can be changed to."""
        if row is None:
            return self.rows()
        kept = [name for name, _, fixed, _ in self.columns if fixed]
        return [None] + [other for other in self.rows() if all(other[name] == row[name] for name in kept)]


def state_of(run, key):
    """What table and copies have at the key, as something that can be a key of a dict."""
    held = [copy.held.get(key) for copy in run.copies.values()]
    rows = [None if told is None else (tuple(told[0].values()), tuple(sorted(told[1]))) for told in held]
    return (tuple(run.table[key].values()) if key in run.table else None, *rows)


def set_state(run, key, state):
    """Give table and copies what they have in a state."""
    row, *rows = state
    run.table = {} if row is None else {key: dict(zip([name for name, *_ in run.columns], row))}
    for told, (name, names, _) in zip(rows, run.targets):
        run.copies[name].held = {} if told is None else {key: [dict(zip(names, told[0])), set(told[1])]}


def empty_state(run):
    return (None,) * (1 + len(run.targets))


def moved(run, key, state, row, order=()):
    """The state behind a step, None if it is refused."""
    set_state(run, key, state)
    try:
        run.step(key, row, order)
    except Stop:
        return None
    return state_of(run, key)


def judged(run, named):
    """For copies that must be right: (number of steps, faults) of the shortest wrong histories, and all holdings.

    If all is right, the number is 0.
    """
    space = Space([run], 1 + len(run.targets))
    orders = list(itertools.permutations(range(len(run.feeds))))
    seen = {(key, empty_state(run)) for key in space.keys}
    level = sorted(seen, key=repr)
    many, holdings = 0, set()
    while level:
        many += 1
        faults, following = set(), []
        for key, state in level:
            for row in space.after(row_of(run, state)):
                for order in orders:
                    behind = moved(run, key, state, row, order)
                    if behind is None:
                        faults.add("stopped")
                        continue
                    wrong = [fault for name, _, fault in run.faults() if name in named]
                    if wrong:
                        faults.add(wrong[0])
                        continue
                    holdings.add(run.holdings(key))
                    if (key, behind) not in seen:
                        seen.add((key, behind))
                        following.append((key, behind))
        if faults:
            return many, faults, ()
        level = following
    return 0, set(), tuple(sorted(holdings))


def row_of(run, state):
    return None if state[0] is None else dict(zip([name for name, *_ in run.columns], state[0]))


def due(run, key, row):
    """The row that the first copy must have for a row of the table."""
    run.table = {} if row is None else {key: row}
    name, names, _ = run.targets[0]
    if row is None or not run.let_through(name, key):
        return None
    return {column: row[column] for column in names}


def load(run, key, row):
    """Load the first copy with a row, or with none."""
    name = run.targets[0][0]
    run.copies[name].held = {} if row is None else {key: [dict(row), {0}]}


def take_change(run, key, before, after, deed="by the rule"):
    """Send and apply the message of a change at the table; whether it is not refused."""
    message = run.sent(0, key, before, after)
    if deed != "by the rule":
        message = run.sent_by(deed, 0, key, before, after)
    try:
        if message is not None:
            run.apply(0, message)
    except Stop:
        return False
    return True


# Point 27.
def is_right_deed(run, deed, key, before, after):
    """Whether a deed is right for a change."""
    load(run, key, due(run, key, before))
    return take_change(run, key, before, after, deed) and run.row(run.targets[0][0], key) == due(run, key, after)


def guided(run, deeds):
    """A dict from each signal that occurs to the set of the choices of deeds that are wrong for one of its changes."""
    space = Space([run], 1)
    found = {}
    for key in space.keys:
        for before in [None, *space.rows()]:
            for after in space.after(before):
                wrong = tuple(deed for deed in deeds if not is_right_deed(run, deed, key, before, after))
                found.setdefault(run.signal(0, key, before, after), set()).add(wrong)
    return found


# Point 29.
def case_fault(run, mark, key, first, later):
    """What is wrong in a case of a start, None if nothing is."""
    rows = [first, *later]
    name = run.targets[0][0]
    load(run, key, due(run, key, rows[-1] if mark == "ahead" else first))
    for before, after in zip(rows, later):
        if mark == "ahead" and not take_change(run, key, before, after):
            return "stopped"
    run.table = {} if rows[-1] is None else {key: rows[-1]}
    return run.fault(name, key)


def started(run, mark, most):
    """The faults of the wrong cases with the fewest changes, and their number, at most so many; 0 if there is none."""
    space = Space([run], 3)
    for many in range(1, most + 1):
        faults = set()
        for key in space.keys:
            for first in [None, *space.rows()]:
                for later in cases_from(space, first, many):
                    faults.add(case_fault(run, mark, key, first, later))
        if faults != {None}:
            return many, faults - {None}
    return 0, set()


def cases_from(space, row, many):
    """All ways to make so many changes from a row on."""
    if many == 0:
        return [()]
    return [(after, *later) for after in space.after(row) for later in cases_from(space, after, many - 1)]


# Point 30.
def compared(one, other, names):
    """The number of steps of the shortest histories that part two copies, and how they stop then; 0 if they are alike."""
    space = Space([one, other], 1 + len(one.targets) + len(other.targets))
    seen = {(key, empty_state(one), empty_state(other)) for key in space.keys}
    level = sorted(seen, key=repr)
    many = 0
    while level:
        many += 1
        ways, following = set(), []
        for key, *states in level:
            for row in space.after(row_of(one, states[0])):
                behind = [moved(run, key, state, row) for run, state in zip((one, other), states)]
                refused = tuple(state is None for state in behind)
                if refused == (True, True):
                    continue
                if refused != (False, False) or one.row(names[0], key) != other.row(names[1], key):
                    ways.add(refused)
                elif (key, *behind) not in seen:
                    seen.add((key, *behind))
                    following.append((key, *behind))
        if ways:
            return many, ways
        level = following
    return 0, set()
