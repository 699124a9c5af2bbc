"""Point [21] for the forms of calls."""

import unittest

from hermitcell import callforms
from hermitcell.callforms import CALLS, is_call
from tests.helpers import NO_WORDS, PROGRAM, REGISTERS, FormCase, TrickyText, challenge, nested, ranked

END = ("end",)

FORMS = (
    (("delegate", 5), "g"), (("undelegate", 5), "g"), (("create", 1, 2), "gg"), (("table_create", 1, 2, 3), "ggk"),
    (("table_destroy", 1, 3), "gk"), (("data_create", 1, 5, 6, 3), "gggp"), (("data_fresh", 1, 5, 3), "ggp"),
    (("data_destroy", 1, 3), "gp"), (("share", 1, 12, 5), "gpg"), (("unshare", 1, 12), "gp"),
    (("cpu_create", 1, 6, PROGRAM, REGISTERS), "ggmr"), (("cpu_destroy", 1, 6), "gg"), (("activate", 1), "g"), (("kill", 1), "g"),
    (("destroy", 1), "g"),
)


class CallFormTest(FormCase):
    RIGHT = {
        "g": (0, 23, 11), "k": (0, 1, 2, 3), "p": (0, 7, 8, 15), "m": ((END,), (END,) * 24, (("jump", 0),)),
        "r": ((0,) * 4, (None, "", nested(10), ranked(36))),
    }
    WRONG = {
        "g": (24, -1, None, "1", (1,)), "k": (4, -1, None, "1", (1,)), "p": (16, -1, None, "1", (1,)),
        "m": (None, 0, (), END, (END,) * 25, (END, ("set", 0, 1)), [END], (END, ["end"]), "end"),
        "r": (None, 0, (), (0,) * 3, (0,) * 5, [0] * 4, (nested(11), 0, 0, 0), (ranked(37), 0, 0, 0), (True, 0, 0, 0)),
    }

    def is_form(self, value):
        return is_call(value)

    def test_names(self):
        self.assertEqual(CALLS, (
            "delegate", "undelegate", "create", "table_create", "table_destroy", "data_create", "data_fresh",
            "data_destroy", "share", "unshare", "cpu_create", "cpu_destroy", "activate", "kill", "destroy",
        ))
        self.assertEqual(tuple(call[0] for call, _ in FORMS), CALLS)
        self.assertEqual(is_call.__module__, callforms.__name__)

    def test_forms(self):
        self.asks_for_forms(FORMS)

    def test_granules_are_all_different(self):
        self.asks_for_different_granules(FORMS)
        # A page or a word of the root table is no granule.
        for call in (("table_create", 1, 2, 2), ("share", 9, 9, 1), ("data_fresh", 1, 5, 5)):
            self.assertIs(is_call(call), True)

    def test_what_is_no_call(self):
        for value in NO_WORDS + (
            None, 0, "kill", (), ("kill",), ("",), (None, 1), (("kill",), 1), ("none", 1), (TrickyText("kill"), 1), ([], 1),
            ({}, 1), challenge(0), ("enter", 1, 0), ("page_out", 1, 0), ("freeze", 1),
        ):
            self.assertIs(is_call(value), False)
