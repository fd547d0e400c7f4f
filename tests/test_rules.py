"""The two rules of the document, and rules with own deeds."""

import itertools
import unittest

from filteredcopies.rules import Rule, doubting, trusting

MOVES = ["stays", "leaves", "enters", "away"]
DEEDS = ["put", "change", "take", None]
TRUSTING = {"stays": "change", "leaves": "take", "enters": "put", "away": None}

# All tuples of different moves, also in other orders and none at all, each with both wholes.
SIGNALS = [
    (moves, whole) for many in range(5) for moves in itertools.permutations(MOVES, many) for whole in (False, True)
]


def expected(order, moves):
    """The deed for the first move of an order that is among these, None without any."""
    return next((TRUSTING[move] for move in order if move in moves), None)


class Functions(unittest.TestCase):
    def test_trusting(self):
        for moves, whole in SIGNALS:
            self.assertEqual(trusting(moves, whole), expected(["stays", "leaves", "enters", "away"], moves))

    def test_doubting(self):
        for moves, whole in SIGNALS:
            self.assertEqual(doubting(moves, whole), expected(["enters", "stays", "leaves", "away"], moves))

    def test_in_words(self):
        for whole in (False, True):
            self.assertEqual(trusting(("stays", "enters"), whole), "change")
            self.assertEqual(doubting(("stays", "enters"), whole), "put")
            self.assertEqual(trusting(("leaves", "enters"), whole), "take")
            self.assertEqual(doubting(("leaves", "away"), whole), "take")
            self.assertEqual(doubting(("stays", "leaves", "away"), whole), "change")
            self.assertIsNone(trusting(("away",), whole))
            self.assertIsNone(doubting(("away",), whole))

    def test_arguments_by_name(self):
        self.assertEqual(trusting(whole=True, moves=("leaves",)), "take")
        self.assertEqual(doubting(whole=True, moves=("stays",)), "change")


class Rules(unittest.TestCase):
    def test_example_of_the_document(self):
        rule = Rule({(("leaves", "away"), False): None})
        self.assertEqual([rule(("leaves", "away"), False), rule(("leaves",), False)], [None, "take"])

    def test_own_deeds_for_just_these_signals(self):
        for at, signal in enumerate(SIGNALS):
            for deed in DEEDS:
                rule = Rule({signal: deed})
                self.assertEqual(rule(*signal), deed)
                self.assertEqual(rule(whole=signal[1], moves=signal[0]), deed)
                for other in SIGNALS[at + 1:at + 4]:
                    self.assertEqual(rule(*other), trusting(*other))
                moves, whole = signal
                self.assertEqual(rule(moves, not whole), trusting(moves, whole))

    def test_without_own_deeds(self):
        for signal in SIGNALS:
            self.assertEqual(Rule({})(*signal), trusting(*signal))
            self.assertEqual(Rule(deeds={})(*signal), trusting(*signal))

    def test_a_deed_for_every_signal(self):
        deeds = {signal: DEEDS[at * 7 % 4] for at, signal in enumerate(SIGNALS)}
        rule = Rule(deeds)
        for signal in SIGNALS:
            self.assertEqual(rule(*signal), deeds[signal])
        self.assertEqual(rule.deeds(), deeds)

    def test_deeds_are_new_each_time(self):
        rule = Rule({(("leaves",), False): "put"})
        self.assertEqual(rule.deeds(), {(("leaves",), False): "put"})
        rule.deeds()[(("leaves",), False)] = "change"
        rule.deeds()[(("away",), False)] = "put"
        self.assertEqual(rule.deeds(), {(("leaves",), False): "put"})
        self.assertEqual([rule(("leaves",), False), rule(("away",), False)], ["put", None])
        self.assertEqual(Rule({}).deeds(), {})

    def test_later_changes_to_the_deeds_have_no_effect(self):
        deeds = {(("leaves",), False): "put"}
        rule = Rule(deeds)
        deeds[(("leaves",), False)] = None
        deeds[(("away",), True)] = "put"
        self.assertEqual([rule(("leaves",), False), rule(("away",), True)], ["put", None])

    def test_an_answer_adds_no_deed(self):
        rule = Rule({})
        rule(("leaves",), True)
        self.assertEqual(rule.deeds(), {})


if __name__ == "__main__":
    unittest.main()
