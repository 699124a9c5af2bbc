"""Points [36] and [37], and the forms of [38]."""

import unittest

from hermitcell import moveforms
from hermitcell.moveforms import CPU_PLACE, MOVES, is_move, is_state, number_of, seal_parts, ticket_parts
from tests.helpers import (
    NO_WORDS, FormCase, Hostile, TrickyText, challenge, nested, ranked, seal, ticket, token,
)

FORMS = (
    (("freeze", 1), "g"), (("thaw", 1), "g"), (("seal", 1, 3), "gp"), (("seal_cpu", 1, 6), "gg"), (("give", 1, "there"), "gt"),
    (("ticket", 1), "g"), (("come", 1, 2, ticket()), "ggw"), (("place", 1, 5, 3, seal()), "ggpw"), (("strike", 1, 3), "gp"),
    (("place_cpu", 1, 6, seal()), "ggw"), (("begin", 1), "g"),
)


class MoveFormTest(FormCase):
    RIGHT = {
        "g": (0, 23, 11), "p": (0, 7, 8, 15), "t": ("", "n", "a" * 24, "here", " ~"),
        "w": (None, 0, "x", (), nested(40), ranked(40), ranked(37), seal(), seal(words=None), ticket(), token(1), (1, ticket())),
    }
    WRONG = {
        "g": (24, -1, None, "1", (1,)), "p": (16, -1, None, "1", (1,)),
        "t": (None, 0, ("n",), "a" * 25, "\n", challenge(0), TrickyText("n")), "w": (),
    }

    def is_form(self, value):
        return is_move(value)

    def test_names(self):
        self.assertEqual(MOVES, (
            "freeze", "thaw", "seal", "seal_cpu", "give", "ticket", "come", "place", "strike", "place_cpu", "begin",
        ))
        self.assertEqual(tuple(call[0] for call, _ in FORMS), MOVES)
        self.assertEqual(CPU_PLACE, 8)
        for each in (is_move, is_state, ticket_parts, seal_parts, number_of):
            self.assertEqual(each.__module__, moveforms.__name__)

    def test_forms(self):
        self.asks_for_forms(FORMS)

    def test_granules_are_all_different(self):
        self.asks_for_different_granules(FORMS)
        # A page is no granule, and neither is what stands for a ticket or a seal.
        for call in (("seal", 3, 3), ("place", 1, 5, 5, 5), ("come", 1, 2, 2), ("strike", 1, 1), ("place_cpu", 1, 6, 6)):
            self.assertIs(is_move(call), True)

    def test_what_is_no_move(self):
        for value in NO_WORDS + (
            None, 0, "begin", (), ("begin",), ("",), (None, 1), (("begin",), 1), ("none", 1), (TrickyText("begin"), 1),
            ([], 1), ({}, 1), challenge(0), ("kill", 1), ("enter", 1, 0), ("page_out", 1, 0),
        ):
            self.assertIs(is_move(value), False)


class StateTest(unittest.TestCase):
    def is_right(self, *values):
        for value in values:
            self.assertIs(is_state(value), True, value)

    def is_wrong(self, *values):
        for value in values:
            self.assertIs(is_state(value), False, value)

    def test_right_states(self):
        self.is_right("new", "active", "dying")
        for n in (1, 2, 2 ** 31 - 1):
            self.is_right(("freezing", n), ("frozen", n))
            for target in ("", "n", "a" * 24, " ~"):
                self.is_right(("gone", n, target))
        for word in (ticket(), ticket(measure=(ranked(36),)), ticket(cpus=(14, 15), pages=("data", None) * 4)):
            for cpus in ((), (14,), (14, 15, 16), (None, "x", challenge(0)), (14, 14)):
                self.is_right(("coming", word, cpus))

    def test_numbers(self):
        for n in NO_WORDS + (0, -1, -2 ** 31, None, "1", (1,), challenge(1)):
            self.is_wrong(("freezing", n), ("frozen", n), ("gone", n, "n"))

    def test_targets(self):
        for target in NO_WORDS + (None, 0, (), ("n",), challenge(0), "a" * 25):
            self.is_wrong(("gone", 1, target))

    def test_tickets(self):
        for word in NO_WORDS + (None, 0, "x", (ticket(),), ticket().term, seal(), token(1), challenge(0), seal(kind="page")):
            self.is_wrong(("coming", word, ()))

    def test_virtual_processors(self):
        for cpus in NO_WORDS + (None, 0, "x", [], [14], challenge(0), {}, ticket()):
            self.is_wrong(("coming", ticket(), cpus))
        for part in NO_WORDS:
            self.is_wrong(("coming", ticket(), (part,)), ("coming", ticket(), (14, part)))

    def test_other_forms(self):
        for name in ("new", "active", "dying"):
            self.is_wrong((name,), (name, 1), name.upper(), name + " ", TrickyText(name), [name], (name, 1, "n"))
        for state in (("freezing", 1), ("frozen", 1), ("gone", 1, "n"), ("coming", ticket(), ())):
            self.is_wrong(
                state[0], state[:1], state[:-1], state + (1,), state + (None,), list(state), (state,), state[1:],
                (TrickyText(state[0]),) + state[1:], (state[0].upper(),) + state[1:], ("none",) + state[1:], (None,) + state[1:],
            )
        self.is_wrong(("freezing", 1, "n"), ("frozen", 1, "n"), ("gone", 1), ("gone", "n", 1), ("coming", ()), ("coming", (), ticket()))
        self.is_wrong(*NO_WORDS, None, 0, "", (), challenge(0), ticket())


class PartsTest(unittest.TestCase):
    def test_tickets(self):
        for word in (ticket(), ticket(measure=(ranked(36),), pages=("data",) * 8, cpus=(8, 31), source="", target="", number=-1)):
            self.assertEqual(ticket_parts(word), word.term)
        self.assertEqual(ticket_parts(ticket(number=7)), ("m", 7, "n", (), (None,) * 8, ()))
        for word in NO_WORDS + (
            None, 0, "ticket", (), ticket().term, (ticket(),), seal(), seal(kind="page"), token(1), token(ticket(), measure=()),
            challenge(0), ("ticket",) + ticket().term,
        ):
            self.assertIsNone(ticket_parts(word))

    def test_seals(self):
        for word in (seal(), seal(0, -5, (None, (), "x", seal()), ""), seal(place=31), seal(words=(None,) * 4)):
            self.assertEqual(seal_parts(word), word.term)
        self.assertEqual(seal_parts(seal(7, 9)), ("m", 7, 9, (1, 2, 3, 4)))
        for word in NO_WORDS + (
            None, 0, "seal", (), seal().term, (seal(),), seal(words=None), seal(kind="page"), seal(kind="page", words=None),
            token(seal()), ticket(), challenge(0), ("seal",) + seal().term,
        ):
            self.assertIsNone(seal_parts(word))

    def test_numbers_of_states(self):
        for n in (1, 0, -1, None, "x", (), 2 ** 40, seal()):
            self.assertEqual(number_of(("freezing", n)), n)
            self.assertEqual(number_of(("frozen", n)), n)
            self.assertEqual(number_of(("gone", n, "n")), n)
            self.assertEqual(number_of(("gone", n, None)), n)
        for n in (True, 1.5, [], {}, object(), Hostile()):
            for state in (("freezing", n), ("frozen", n), ("gone", n, n)):
                self.assertIs(number_of(state), n)
        for state in NO_WORDS + (
            None, 0, "new", "active", "dying", "frozen", (), ("frozen",), ("freezing",), ("gone", 1), ("frozen", 1, 2),
            ("freezing", 1, "n"), ("gone", 1, "n", 1), ("coming", 1, ()), ("coming", 1), ["frozen", 1], ("Frozen", 1), ("new", 1),
            (TrickyText("frozen"), 1), (Hostile(), 1), (Hostile(), 1, 2), (("frozen",), 1), challenge(1), ticket(), (1, "frozen"),
        ):
            self.assertIsNone(number_of(state))
