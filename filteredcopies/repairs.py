"""Repairs: the least that must be changed in a network so that it is right for all histories."""

from filteredcopies.copies import VALUES
from filteredcopies.errors import TooMany
from filteredcopies.judging import judge

MOST_WEIGHT = 64
MOST_WEIGHT_OF_TURNS = 32


def least_elder(network, at):
    """All least elder choices for a feed."""
    names = network.columns_of(network.feed_at(at).source)
    _check_weight(network, MOST_WEIGHT)
    choices = [()]
    for name in sorted(names):
        choices = choices + [(*choice, name) for choice in choices]
    found = []
    # The choices with fewer names come first, so each one comes behind all that are less.
    for choice in _fewest_first(choices):
        if not any([_is_within(less, choice) for less in found]) and judge(network.with_elder(at, choice)):
            found.append(choice)
    return found


def least_turns(network, name):
    """All least turns of the habits of a target."""
    habits = network.target_of(name).habits.named()
    _check_weight(network, MOST_WEIGHT_OF_TURNS)
    choices = [()]
    for habit in sorted(VALUES):
        others = [value for value in VALUES[habit] if value != habits[habit]]
        choices = choices + [(*choice, (habit, value)) for choice in choices for value in others]
    found = []
    for choice in _fewest_first(choices):
        if found and len(choice) > len(found[0]):
            break
        turned = dict(choice)
        if judge(network.turned(name, **turned)):
            found.append(choice)
    return found


def _check_weight(network, most):
    """Raise an error if the weight of the network is above this one."""
    size = network.weight()
    if size > most:
        raise TooMany(size)


def _fewest_first(choices):
    """The choices with fewer parts first, otherwise ascending."""
    return sorted(choices, key=lambda choice: (len(choice), choice))


def _is_within(less, choice):
    """Whether all parts of the one are among those of the other."""
    return all([part in choice for part in less])
