"""Points [11] to [13], and what [1] says of tables."""

import unittest

from hermitcell import tables
from hermitcell.memory import Memory
from hermitcell.tables import is_entry, is_root_word, leaf_of, map_of, place_of, tables_fault
from tests.helpers import NO_WORDS, Hostile, TrickyText, challenge, contents, leave, nested, seal, write

ROOT, LEAVES, OWNER = 1, (2, 3, 4, 5), 0
WRONG_GRANULES = (24, -1, None, True, False, "1", 1.0, (1,), [1], challenge(0), Hostile(), 10 ** 30)
WRONG_NUMBERS = (0, -1, 2 ** 31, True, False, "1", 1.0, (1,), [1], challenge(0), Hostile())
LEAVING = (("leaving", 0, None), ("leaving", 23, 1), ("leaving", 5, 2 ** 31 - 1))
NO_LEAVING = (
    tuple(("leaving", g, 1) for g in WRONG_GRANULES) + tuple(("leaving", 1, n) for n in WRONG_NUMBERS)
    + (("leaving",), ("leaving", 1), ("leaving", 1, 1, 1), ("leaving", 1, None, None), ["leaving", 1, 1])
)
ODD = (
    0, 1, "", "table", "data", "none", "None", (), (1,), (1, 1), ("",), ("x", 1), ("Table", 1), ("Data", 1), seal(),
    ((),), nested(40), (Hostile(), 1), ([], 1), ({}, 1), (TrickyText("x"), 1), TrickyText("destroyed"), (None, 1),
    (("table",), 1), (challenge(0), 1), (TrickyText("leaving"), 1, None),
) + NO_WORDS


def right_tables():
    """A memory with right tables, in which each kind of word and of entry stands."""
    memory = Memory()
    leave(memory, ROOT, "table", OWNER)
    write(memory, ROOT, ("table", 2), ("table", 3), ("leaving", 4, 7), ("table", 5))
    for leaf in LEAVES:
        leave(memory, leaf, "table", OWNER)
        write(memory, leaf, None, None, None, None)
    for g in (10, 11, 12):
        leave(memory, g, "data", OWNER)
    write(memory, 2, ("data", 10), "destroyed", ("out", 3), ("leaving", 11, None))
    write(memory, 3, None, ("leaving", 12, 5), None, "destroyed")
    write(memory, 5, ("shared", 10), ("shared", 20), None, ("shared", 20))
    return memory


class FormTest(unittest.TestCase):
    def test_all_is_defined_in_its_file(self):
        for each in (is_entry, is_root_word, leaf_of, map_of, place_of, tables_fault):
            self.assertEqual(each.__module__, tables.__name__)

    def test_places(self):
        self.assertEqual(place_of(13), (3, 1))
        self.assertEqual([place_of(page) for page in (0, 3, 4, 7, 8, 15)], [(0, 0), (0, 3), (1, 0), (1, 3), (2, 0), (3, 3)])
        self.assertEqual(sorted({place_of(page) for page in range(16)}), [(k, i) for k in range(4) for i in range(4)])

    def test_leaves(self):
        for t in range(24):
            self.assertEqual(leaf_of(("table", t)), t)
        self.assertIsNone(leaf_of(("leaving", 7, 2)))
        wrong = tuple(("table", t) for t in WRONG_GRANULES) + (
            None, ("table",), ("table", 1, 1), ["table", 1], ("data", 1), ("leaving", 7, None), (TrickyText("table"), 1),
        )
        for word in wrong + ODD:
            self.assertIsNone(leaf_of(word))

    def test_words_of_root_tables(self):
        for word in (None, ("table", 0), ("table", 23)) + LEAVING:
            self.assertIs(is_root_word(word), True)
        wrong = tuple(("table", t) for t in WRONG_GRANULES) + (
            ("table",), ("table", 1, 1), ["table", 1], ("data", 1), ("shared", 1), ("out", 1), "destroyed", ("table", 1, None),
        )
        for word in wrong + NO_LEAVING + ODD:
            self.assertIs(is_root_word(word), False)

    def test_entries(self):
        right = (None, "destroyed", ("data", 0), ("data", 23), ("shared", 0), ("shared", 23), ("out", 1), ("out", 2 ** 31 - 1))
        for word in right + LEAVING:
            self.assertIs(is_entry(word), True)
        wrong = tuple((kind, g) for kind in ("data", "shared") for g in WRONG_GRANULES)
        wrong = wrong + tuple(("out", n) for n in WRONG_NUMBERS + (None,)) + (
            ("data",), ("shared",), ("out",), ("data", 1, 1), ("shared", 1, None), ("out", 1, 1), ["data", 1], ("table", 1),
            ("destroyed",), "Destroyed", "out", ("out", 1, None), ("data", 1, None),
        )
        for word in wrong + NO_LEAVING + ODD:
            self.assertIs(is_entry(word), False)


class MapTest(unittest.TestCase):
    def test_map(self):
        memory = right_tables()
        before = contents(memory)
        self.assertEqual(map_of(memory, ROOT), [
            ("data", 10), "destroyed", ("out", 3), ("leaving", 11, None), None, ("leaving", 12, 5), None, "destroyed",
            None, None, None, None, ("shared", 10), ("shared", 20), None, ("shared", 20),
        ])
        self.assertEqual(contents(memory), before)

    def test_leaves_that_are_being_destroyed_have_no_pages(self):
        memory = right_tables()
        write(memory, ROOT, ("leaving", 2, None))
        self.assertEqual(map_of(memory, ROOT)[:4], [None] * 4)

    def test_words_that_lead_nowhere(self):
        memory = right_tables()
        for word in (None, 0, "table", ("table", 24), ("table", "2"), ("table", 2, 2), ("data", 2)):
            write(memory, ROOT, word)
            self.assertEqual(map_of(memory, ROOT)[:4], [None] * 4)
            self.assertEqual(map_of(memory, ROOT)[5], ("leaving", 12, 5))

    def test_the_list_is_the_callers(self):
        memory = right_tables()
        told = map_of(memory, ROOT)
        map_of(memory, ROOT).clear()
        write(memory, 2, None)
        self.assertEqual(told[0], ("data", 10))
        self.assertEqual(len(map_of(memory, ROOT)), 16)


class FaultTest(unittest.TestCase):
    def setUp(self):
        self.memory = right_tables()

    def tells(self, fault):
        before = contents(self.memory)
        self.assertEqual(tables_fault(self.memory, ROOT), fault)
        self.assertEqual(contents(self.memory), before)

    def spoil(self, *faults):
        """Makes one fault of each of these kinds, in right tables."""
        self.memory = right_tables()
        places = {"root": (ROOT, 2, "x"), "leaf": (5, 3, "x"), "half": (5, 0, ("out", 1)), "data": (2, 0, ("data", 12))}
        for fault in faults:
            g, i, word = places[fault]
            self.memory.access(("monitor", 0), ("write", g, i, word))

    def test_right_tables(self):
        self.tells("")
        for g in (ROOT, 2, 10):
            self.memory.access(("monitor", 1), ("hold", g))
        self.tells("")
        write(self.memory, ROOT, None, None, None, None)
        self.tells("")

    def test_another_owner(self):
        for owner in (None, 23):
            self.memory = right_tables()
            for g in (ROOT, *LEAVES):
                leave(self.memory, g, "table", owner)
            for g in (10, 11, 12):
                leave(self.memory, g, "data", owner)
            self.tells("")

    def test_each_alone_and_the_earlier_of_two(self):
        words = ("root", "leaf", "half", "data")
        for at, first in enumerate(words):
            self.spoil(first)
            self.tells(first)
            for second in words[at + 1:]:
                if (first, second) != ("half", "data"):
                    self.spoil(first, second)
                    self.tells(first)
        self.spoil(*words)
        self.tells("root")

    def test_half_and_data_in_the_order_of_the_pages(self):
        write(self.memory, 2, ("shared", 10))
        write(self.memory, 3, ("data", 13))
        self.tells("half")
        write(self.memory, 2, ("data", 13), "destroyed", ("shared", 10))
        self.tells("data")
        self.spoil("half", "data")
        self.tells("data")

    def test_half_ahead_of_data_at_one_page(self):
        write(self.memory, 5, ("data", 13))
        self.tells("half")
        write(self.memory, 5, ("data", 10))
        self.tells("half")

    def test_root(self):
        for state in ("host", "free", "desc", "cpu", "running", "data"):
            leave(self.memory, ROOT, state, OWNER)
            self.tells("root")
        leave(self.memory, ROOT, "table", OWNER)
        for i in range(4):
            for word in (0, "destroyed", ("table", 24), ("data", 10), ("leaving", 2, 0), ("leaving", 2), seal()):
                self.memory = right_tables()
                self.memory.access(("monitor", 0), ("write", ROOT, i, word))
                self.tells("root")

    def test_states_and_owners_of_leaves(self):
        for leaf in LEAVES:
            for state, owner in (("free", None), ("host", None), ("data", OWNER), ("cpu", OWNER), ("desc", OWNER)):
                self.memory = right_tables()
                leave(self.memory, leaf, state, owner)
                self.tells("leaf")
            for owner in (None, 23):
                self.memory = right_tables()
                leave(self.memory, leaf, "table", owner)
                self.tells("leaf")

    def test_words_of_leaves(self):
        for leaf in LEAVES:
            for i in range(4):
                for word in (0, "", ("data", 24), ("table", 10), ("out", 0), ("leaving", 10, 0), ("shared",), seal()):
                    self.memory = right_tables()
                    self.memory.access(("monitor", 0), ("write", leaf, i, word))
                    self.tells("leaf")

    def test_leaves_are_different(self):
        for at in range(4):
            for t in (ROOT, *LEAVES):
                if t != LEAVES[at]:
                    for word in (("table", t), ("leaving", t, None)):
                        self.memory = right_tables()
                        self.memory.access(("monitor", 0), ("write", ROOT, at, word))
                        self.tells("leaf")

    def test_halves(self):
        own = (("data", 13), ("leaving", 13, None), ("leaving", 13, 4), ("out", 9))
        for page in range(16):
            at, i = place_of(page)
            for entry in own + (("shared", 13), None, "destroyed"):
                self.memory = right_tables()
                leave(self.memory, 13, "data", OWNER)
                write(self.memory, ROOT, ("table", 2), ("table", 3), ("table", 4), ("table", 5))
                self.memory.access(("monitor", 0), ("write", LEAVES[at], i, entry))
                is_wrong = entry in own and page >= 8 or entry == ("shared", 13) and page < 8
                self.tells("half" if is_wrong else "")

    def test_states_and_owners_of_data(self):
        for g in (10, 11, 12):
            for state, owner in (("host", None), ("free", None), ("table", OWNER), ("cpu", OWNER), ("running", OWNER)):
                self.memory = right_tables()
                leave(self.memory, g, state, owner)
                self.tells("data")
            for owner in (None, 23):
                self.memory = right_tables()
                leave(self.memory, g, "data", owner)
                self.tells("data")

    def test_data_are_different(self):
        for entry in (("data", 10), ("data", 11), ("data", 12), ("leaving", 10, 2), ("leaving", 11, None)):
            self.memory = right_tables()
            write(self.memory, 3, None, ("leaving", 12, 5), entry)
            self.tells("data")

    def test_what_is_behind_a_leaving_leaf_is_no_page(self):
        write(self.memory, 4, ("data", 10), ("data", 13), ("out", 1), ("shared", 4))
        self.tells("")
        write(self.memory, ROOT, ("table", 2), ("table", 3), ("table", 4))
        self.tells("half")

    def test_shared_granules_are_not_asked(self):
        for g in (ROOT, 2, OWNER, 10, 20):
            write(self.memory, 5, ("shared", g), ("shared", g))
            self.tells("")
