"""Points [19] to [22], and what [1] and [2] say of calls."""

from hermitcell import calls
from hermitcell.calls import Call
from hermitcell.errors import NotValid
from hermitcell.memory import Memory
from hermitcell.tables import map_of, tables_fault
from tests.helpers import (
    CPU, D, DATA, FREE, HIGH_LEAF, HIGH_PAGE, HOST, LEAF, MEASURE, MONITOR, MOVING, NO_WORDS, OTHER_FREE, PAGE, PROGRAM,
    REGISTERS, ROOT, SHARED, SOURCE, SOURCE_AT, STATES, STATUSES, CallCase, RealmCase, WaitingCase, contents, do, finish,
    leave, nested, put, realm, seal, status, wipes, write,
)


class CallTest(CallCase):
    def test_the_class_is_defined_in_its_file(self):
        self.assertEqual(Call.__module__, calls.__name__)
        for name in ("step", "answer", "state", "copy"):
            self.assertIn(name, vars(Call))

    def test_wrong_calls(self):
        memory = Memory()
        for call in NO_WORDS + (
            None, (), ("delegate",), ("delegate", 24), ("delegate", 5, 5), ["delegate", 5], ("create", 1, 1), ("enter", 1, 0),
            ("page_out", 1, 2), ("cpu_create", 1, 2, (), (0,) * 4), ("table_create", 1, 2, 4), ("data_fresh", 1, 2, 16),
        ):
            with self.assertRaises(NotValid):
                Call(memory, 0, call)
        self.assertEqual(contents(memory), contents(Memory()))

    def test_wrong_processors(self):
        memory = Memory()
        for processor in NO_WORDS + (3, -1, None, "0", (0,)):
            with self.assertRaises(NotValid):
                Call(memory, processor, ("delegate", 5))
        self.assertEqual(contents(memory), contents(Memory()))

    def test_a_new_call_makes_no_access(self):
        for processor in range(3):
            memory = Memory()
            call = Call(memory, processor, ("delegate", 5))
            self.assertIsNone(call.answer())
            self.assertEqual(contents(memory), contents(Memory()))

    def test_states_tell_calls_processors_and_what_was_read(self):
        memory = Memory()
        states = [Call(memory, p, call).state() for p in range(3) for call in (("delegate", 5), ("delegate", 6), ("undelegate", 5))]
        for at, state in enumerate(states):
            self.assertNotIn(state, states[:at])
        one, other = realm(), realm("dying")
        first, second = Call(one, 0, ("data_destroy", D, PAGE)), Call(other, 0, ("data_destroy", D, PAGE))
        first.step(), second.step()
        self.assertEqual(first.state(), second.state())
        first.step(), second.step()
        self.assertNotEqual(first.state(), second.state())

    def test_an_access_that_cannot_be_changes_nothing(self):
        # No host writes words that are nested so deep; the measure would be no word.
        memory = realm("new")
        memory.access(HOST, ("write", SOURCE_AT, 0, nested(38)))
        call = Call(memory, 0, ("data_create", D, FREE, SOURCE_AT, 2))
        with self.assertRaises(NotValid):
            finish(call)
        before, state = contents(memory), call.state()
        with self.assertRaises(NotValid):
            call.step()
        self.assertEqual((contents(memory), call.state(), call.answer()), (before, state, None))


class GranuleTest(RealmCase):
    def test_the_example(self):
        memory = Memory()
        self.makes(memory, ("delegate", 5), [("hold", 5), ("leave", 5, "free", None)], ("ok",))
        self.makes(memory, ("delegate", 5), [("hold", 5), ("release", 5)], ("no",))

    def test_delegate(self):
        done = [("hold", SHARED), ("leave", SHARED, "free", None)]
        memory = self.does(("delegate", SHARED), done, processor=2)
        self.assertEqual(memory.status(SHARED), ("free", None, None))
        self.assertEqual(memory.words(SHARED), (0, 0, 0, 0))
        self.asks_for_state(("delegate", SHARED), done, 1, SHARED, "host", "active", held=1)
        self.is_busy_where_it_holds(realm, ("delegate", SHARED), done, 1)

    def test_undelegate(self):
        done = [("hold", FREE)] + wipes(FREE) + [("leave", FREE, "host", None)]
        memory = self.does(("undelegate", FREE), done, changes=[put(FREE, 2, seal())])
        self.assertEqual((memory.status(FREE), memory.words(FREE)), (("host", None, None), (0, 0, 0, 0)))
        self.asks_for_state(("undelegate", FREE), done, 1, FREE, "free", "active", held=1)
        self.is_busy_where_it_holds(realm, ("undelegate", FREE), done, 1)

    def test_create(self):
        call = ("create", FREE, OTHER_FREE)
        words = ("new", OTHER_FREE, (), (0, 0, 0))
        done = [("hold", FREE), ("hold", OTHER_FREE)] + [("write", FREE, i, word) for i, word in enumerate(words)]
        done += [("write", OTHER_FREE, i, None) for i in range(4)]
        done += [("leave", OTHER_FREE, "table", FREE), ("leave", FREE, "desc", None)]
        memory = self.does(call, done, processor=1)
        self.assertEqual((memory.words(FREE), memory.words(OTHER_FREE)), (words, (None,) * 4))
        self.assertEqual(memory.status(FREE), ("desc", None, None))
        self.assertEqual(memory.status(OTHER_FREE), ("table", FREE, None))
        self.asks_for_state(call, done, 2, FREE, "free", "active")
        self.asks_for_state(call, done, 2, OTHER_FREE, "free", "active")
        self.is_busy_where_it_holds(realm, call, done, 2)


class TableCreateTest(RealmCase):
    CALL = ("table_create", D, FREE, 3)

    def done(self, counts=(1, 2, 1)):
        cpus, tables, data = counts
        return [
            ("hold", D), ("hold", FREE), ("read", D, 0), ("read", D, 1), ("read", ROOT, 3),
            *[("write", FREE, i, None) for i in range(4)], ("write", ROOT, 3, ("table", FREE)), ("read", D, 3),
            ("write", D, 3, (cpus, tables + 1, data)), ("leave", FREE, "table", D), ("leave", D, "desc", None),
        ]

    def test_work(self):
        for state in ("new", "active", MOVING[-1]):
            memory = self.does(self.CALL, self.done(), state, [put(FREE, 1, 7)])
            self.assertEqual((memory.status(FREE), memory.words(FREE)), (("table", D, None), (None,) * 4))
            self.assertEqual(memory.words(D), (state, ROOT, MEASURE, (1, 3, 1)))
            self.assertEqual(tables_fault(memory, ROOT), "")

    def test_each_word_of_the_root(self):
        for k in range(4):
            memory = realm()
            write(memory, ROOT, None, None, None, None)
            done = [
                ("read", ROOT, k) if each == ("read", ROOT, 3) else ("write", ROOT, k, each[3]) if each[:3] == ("write", ROOT, 3)
                else each for each in self.done()
            ]
            self.makes(memory, ("table_create", D, FREE, k), done, ("ok",))

    def test_what_is_asked(self):
        self.asks_for_realm(self.CALL, self.done(), 2, ("new", "active", MOVING[-1]), "new")
        self.asks_for_state(self.CALL, self.done(), 3, FREE, "free", "active")
        for word in (("table", LEAF), ("table", SHARED), ("leaving", LEAF, None), ("leaving", LEAF, 2)):
            self.fails(self.CALL, self.done(), 5, put(ROOT, 3, word), held=2)

    def test_the_first_of_two_that_do_not_hold(self):
        self.fails(self.CALL, self.done(), 3, put(D, 0, "dying"), status(FREE, "host"), held=2)
        self.fails(self.CALL, self.done(), 3, status(FREE, "host"), put(ROOT, 3, ("table", 9)), held=2)
        self.fails(self.CALL, self.done(), 2, status(D, "free"), put(D, 0, "dying"), held=2)

    def test_busy(self):
        self.is_busy_where_it_holds(realm, self.CALL, self.done(), 2)


class DataCreateTest(RealmCase):
    CALL = ("data_create", D, FREE, SOURCE_AT, 2)

    def done(self, page=2):
        done = [("hold", D), ("hold", FREE), ("read", D, 0), ("read", D, 1), ("read", ROOT, page // 4), ("read", LEAF, page % 4)]
        for i, word in enumerate(SOURCE):
            done += [("copy", SOURCE_AT, i), ("write", FREE, i, word)]
        measure = MEASURE + (("page", page, SOURCE),)
        return done + [
            ("read", D, 2), ("write", D, 2, measure), ("write", LEAF, page % 4, ("data", FREE)), ("read", D, 3),
            ("write", D, 3, (1, 2, 2)), ("leave", FREE, "data", D), ("leave", D, "desc", None),
        ]

    def test_work(self):
        memory = self.does(self.CALL, self.done(), "new", [put(FREE, 1, 7)])
        self.assertEqual((memory.status(FREE), memory.words(FREE)), (("data", D, None), SOURCE))
        self.assertEqual(memory.words(D), ("new", ROOT, MEASURE + (("page", 2, SOURCE),), (1, 2, 2)))
        self.assertEqual(map_of(memory, ROOT)[:3], [None, ("data", DATA), ("data", FREE)])

    def test_the_last_page_of_the_half(self):
        done = [
            each[:1] + (LEAF if each[1] == HIGH_LEAF else each[1],) + each[2:] for each in self.done(7)
        ]
        self.does(("data_create", D, FREE, SOURCE_AT, 7), done, "new", [put(ROOT, 1, ("table", LEAF))])

    def test_a_source_that_may_not_be_copied(self):
        for state, owner in STATUSES.items():
            if state != "host":
                self.refused_source(0, state, owner)
                for at in (1, 2, 3):
                    self.refused_source(at, state, owner)

    def refused_source(self, at, state, owner):
        """The source is taken from the host ahead of the copy of one of its words."""
        memory = realm("new")
        before = contents(memory)[1:]
        call = Call(memory, 0, self.CALL)
        since = len(memory.log())
        for _ in range(6 + 2 * at):
            self.assertIsNone(call.step())
        leave(memory, SOURCE_AT, state, owner)
        expected = self.done()[:7 + 2 * at] + wipes(FREE) + [("release", D), ("release", FREE)]
        while call.answer() is None:
            copy_memory = memory.copy()
            self.assertEqual(call.copy(copy_memory).state(), call.state())
            call.step()
        self.assertEqual(call.answer(), ("no",))
        asked = [request for _, _, request, _ in memory.log()[since:] if request[:2] != ("leave", SOURCE_AT)]
        self.assertEqual(asked, expected)
        leave(memory, SOURCE_AT, "host")
        self.assertEqual(contents(memory)[1:], before)

    def test_a_source_that_changes_on_the_way(self):
        memory = realm("new")
        call = Call(memory, 0, self.CALL)
        for at in range(22):
            memory.access(HOST, ("write", SOURCE_AT, 2, at))
            if call.answer() is None:
                call.step()
        words = memory.words(FREE)
        self.assertEqual(words, SOURCE[:2] + (10,) + SOURCE[3:])
        self.assertEqual(memory.words(D)[2][-1], ("page", 2, words))

    def test_what_is_asked(self):
        self.asks_for_realm(self.CALL, self.done(), 2, ("new",), "new")
        self.asks_for_state(self.CALL, self.done(), 3, FREE, "free", "new")
        self.asks_for_entry(self.CALL, self.done(), 6, 2, (None,), "new", 2)
        for page in (8, 9, 15):
            self.fails(("data_create", D, FREE, SOURCE_AT, page), self.done(), 3, state="new", held=2)
        # A page is asked behind the state of the granule, and ahead of the root.
        self.fails(("data_create", D, FREE, SOURCE_AT, 8), self.done(), 3, put(ROOT, 2, None), state="new", held=2)

    def test_busy(self):
        self.is_busy_where_it_holds(lambda: realm("new"), self.CALL, self.done(), 2)


class DataFreshTest(RealmCase):
    CALL = ("data_fresh", D, FREE, 0)
    DONE = [
        ("hold", D), ("hold", FREE), ("read", D, 0), ("read", D, 1), ("read", ROOT, 0), ("read", LEAF, 0), *wipes(FREE),
        ("write", LEAF, 0, ("data", FREE)), ("read", D, 3), ("write", D, 3, (1, 2, 2)), ("leave", FREE, "data", D),
        ("leave", D, "desc", None),
    ]

    def test_work(self):
        memory = self.does(self.CALL, self.DONE, changes=[put(FREE, 3, seal())])
        self.assertEqual((memory.status(FREE), memory.words(FREE)), (("data", D, None), (0, 0, 0, 0)))
        self.assertEqual(memory.words(D), ("active", ROOT, MEASURE, (1, 2, 2)))

    def test_what_is_asked(self):
        self.asks_for_realm(self.CALL, self.DONE, 2, ("active",), "active")
        self.asks_for_state(self.CALL, self.DONE, 3, FREE, "free", "active")
        self.asks_for_entry(self.CALL, self.DONE, 6, 0, (None,), "active", 2)
        for page in (8, 9, 15):
            self.fails(("data_fresh", D, FREE, page), self.DONE, 3, held=2)
        done = self.DONE[:4] + [("read", ROOT, 1)]
        self.fails(("data_fresh", D, FREE, 7), done, 5, held=2)

    def test_busy(self):
        self.is_busy_where_it_holds(realm, self.CALL, self.DONE, 2)


class ShareTest(RealmCase):
    CALL = ("share", D, 9, SHARED)
    DONE = [
        ("hold", D), ("read", D, 0), ("read", D, 1), ("read", ROOT, 2), ("read", HIGH_LEAF, 1),
        ("write", HIGH_LEAF, 1, ("shared", SHARED)), ("leave", D, "desc", None),
    ]
    BACK = ("unshare", D, HIGH_PAGE)
    BACK_DONE = [
        ("hold", D), ("read", D, 0), ("read", D, 1), ("read", ROOT, 2), ("read", HIGH_LEAF, 2), ("write", HIGH_LEAF, 2, None),
        ("leave", D, "desc", None),
    ]

    def test_share(self):
        for state in ("new", "active"):
            memory = self.does(self.CALL, self.DONE, state)
            self.assertEqual(map_of(memory, ROOT)[9], ("shared", SHARED))
            self.assertEqual(memory.words(D), (state, ROOT, MEASURE, (1, 2, 1)))
        # The granule is not asked: it can be held, and of any state.
        for change in (status(SHARED, "data", D), lambda memory: memory.access(MONITOR, ("hold", SHARED))):
            self.does(self.CALL, self.DONE, changes=[change])

    def test_what_share_asks(self):
        self.asks_for_realm(self.CALL, self.DONE, 1, ("new", "active"), "active")
        self.asks_for_entry(self.CALL, self.DONE, 5, 9, (None,), "active", 1)
        for page in (0, 2, 7):
            self.fails(("share", D, page, SHARED), self.DONE, 2)

    def test_unshare(self):
        for state in STATES:
            memory = self.does(self.BACK, self.BACK_DONE, state)
            self.assertIsNone(map_of(memory, ROOT)[HIGH_PAGE])

    def test_what_unshare_asks(self):
        self.asks_for_realm(self.BACK, self.BACK_DONE, 1, STATES, "active")
        self.asks_for_entry(self.BACK, self.BACK_DONE, 5, HIGH_PAGE, ("shared",), "active", 1)
        for page in (0, 1, 7):
            self.fails(("unshare", D, page), self.BACK_DONE, 2)
        self.fails(("unshare", D, 0), self.BACK_DONE, 2, put(LEAF, 0, ("shared", SHARED)))

    def test_pages_at_the_ends(self):
        memory = realm()
        do(memory, ("share", D, 8, SHARED), ("unshare", D, 8), ("table_create", D, FREE, 3), ("share", D, 15, SHARED))
        do(memory, ("unshare", D, 15))
        self.assertEqual(tables_fault(memory, ROOT), "")

    def test_busy(self):
        self.is_busy_where_it_holds(realm, self.CALL, self.DONE, 1)
        self.is_busy_where_it_holds(realm, self.BACK, self.BACK_DONE, 1)


class CpuTest(RealmCase):
    CALL = ("cpu_create", D, FREE, PROGRAM, REGISTERS)
    MEASURE = MEASURE + (("cpu", PROGRAM, REGISTERS),)
    DONE = [
        ("hold", D), ("hold", FREE), ("read", D, 0), ("write", FREE, 0, 0), ("write", FREE, 1, REGISTERS),
        ("write", FREE, 2, None), ("write", FREE, 3, PROGRAM), ("read", D, 2), ("write", D, 2, MEASURE), ("read", D, 3),
        ("write", D, 3, (2, 2, 1)), ("leave", FREE, "cpu", D), ("leave", D, "desc", None),
    ]
    BACK = ("cpu_destroy", D, CPU)
    BACK_DONE = [
        ("hold", D), ("hold", CPU), ("read", D, 0), *wipes(CPU), ("read", D, 3), ("write", D, 3, (0, 2, 1)),
        ("leave", CPU, "free", None), ("leave", D, "desc", None),
    ]

    def test_create(self):
        memory = self.does(self.CALL, self.DONE, "new")
        self.assertEqual((memory.status(FREE), memory.words(FREE)), (("cpu", D, None), (0, REGISTERS, None, PROGRAM)))
        self.assertEqual(memory.words(D), ("new", ROOT, self.MEASURE, (2, 2, 1)))

    def test_what_create_asks(self):
        self.asks_for_realm(self.CALL, self.DONE, 2, ("new",), "new")
        self.asks_for_state(self.CALL, self.DONE, 3, FREE, "free", "new")

    def test_destroy(self):
        memory = self.does(self.BACK, self.BACK_DONE, "dying")
        self.assertEqual((memory.status(CPU), memory.words(CPU)), (("free", None, None), (0, 0, 0, 0)))
        self.assertEqual(memory.words(D), ("dying", ROOT, MEASURE, (0, 2, 1)))

    def test_what_destroy_asks(self):
        self.asks_for_realm(self.BACK, self.BACK_DONE, 2, ("dying",), "dying")
        self.asks_for_state(self.BACK, self.BACK_DONE, 3, CPU, "cpu", "dying")
        for owner in (None, ROOT, FREE):
            self.fails(self.BACK, self.BACK_DONE, 3, status(CPU, "cpu", owner), state="dying", held=2)

    def test_a_granule_that_is_released_keeps_the_state_that_it_has_then(self):
        memory = realm("dying")
        leave(memory, CPU, "running", D)
        call = Call(memory, 0, self.BACK)
        call.step(), call.step()
        memory.access(MONITOR, ("rest", CPU))
        self.assertEqual(finish(call), ("no",))
        self.assertEqual(memory.status(CPU), ("cpu", D, None))

    def test_busy(self):
        self.is_busy_where_it_holds(lambda: realm("new"), self.CALL, self.DONE, 2)
        self.is_busy_where_it_holds(lambda: realm("dying"), self.BACK, self.BACK_DONE, 2)


class LifeTest(RealmCase):
    ACTIVATE = [("hold", D), ("read", D, 0), ("write", D, 0, "active"), ("leave", D, "desc", None)]
    KILL = [("hold", D), ("read", D, 0), ("write", D, 0, "dying"), ("leave", D, "desc", None)]
    DESTROY = [
        ("hold", D), ("read", D, 0), ("read", D, 3), ("read", D, 1), ("hold", ROOT), *wipes(ROOT), *wipes(D),
        ("leave", ROOT, "free", None), ("leave", D, "free", None),
    ]
    EMPTY = (put(D, 3, (0, 0, 0)),)

    def test_activate(self):
        memory = self.does(("activate", D), self.ACTIVATE, "new")
        self.assertEqual(memory.words(D), ("active", ROOT, MEASURE, (1, 2, 1)))
        self.asks_for_realm(("activate", D), self.ACTIVATE, 1, ("new",), "new")
        self.is_busy_where_it_holds(lambda: realm("new"), ("activate", D), self.ACTIVATE, 1)

    def test_kill(self):
        for state in STATES:
            memory = self.does(("kill", D), self.KILL, state)
            self.assertEqual(memory.words(D), ("dying", ROOT, MEASURE, (1, 2, 1)))
        self.asks_for_realm(("kill", D), self.KILL, 1, STATES, "active")
        self.is_busy_where_it_holds(realm, ("kill", D), self.KILL, 1)

    def test_destroy(self):
        memory = self.does(("destroy", D), self.DESTROY, "dying", self.EMPTY)
        for g in (D, ROOT):
            self.assertEqual((memory.status(g), memory.words(g)), (("free", None, None), (0, 0, 0, 0)))

    def test_what_destroy_asks(self):
        for other, owner in STATUSES.items():
            if other != "desc":
                self.fails(("destroy", D), self.DESTROY, 1, *self.EMPTY, status(D, other, owner), state="dying")
        for state in STATES:
            if state != "dying":
                self.fails(("destroy", D), self.DESTROY, 2, *self.EMPTY, state=state)
        for counts in ((1, 0, 0), (0, 1, 0), (0, 0, 1), (1, 2, 1)):
            self.fails(("destroy", D), self.DESTROY, 3, put(D, 3, counts), state="dying")

    def test_busy(self):
        def empty():
            memory = realm("dying")
            write(memory, D, "dying", ROOT, MEASURE, (0, 0, 0))
            return memory

        self.is_busy_where_it_holds(empty, ("destroy", D), self.DESTROY, 1)
        memory = empty()
        memory.access(("monitor", 1), ("hold", ROOT))
        before = contents(memory)[1:]
        self.makes(memory, ("destroy", D), self.DESTROY[:5] + [("release", D)], ("busy",))
        self.assertEqual(contents(memory)[1:], before)

    def test_a_whole_life(self):
        memory = realm()
        do(
            memory, ("data_fresh", D, FREE, 2), ("data_destroy", D, 2), ("kill", D), ("cpu_destroy", D, CPU),
            ("data_destroy", D, PAGE), ("table_destroy", D, 0), ("table_destroy", D, 2), ("destroy", D),
            *[("undelegate", g) for g in range(1, 9)],
        )
        for g in range(1, 9):
            self.assertEqual((memory.status(g), memory.words(g)), (("host", None, None), (0, 0, 0, 0)))


class DataDestroyTest(WaitingCase):
    CALL = ("data_destroy", D, PAGE)
    AHEAD = [("hold", D), ("read", D, 0), ("read", D, 1), ("read", ROOT, 0), ("read", LEAF, 1)]

    def behind(self, left):
        return [
            *wipes(DATA), ("write", LEAF, 1, left), ("read", D, 3), ("write", D, 3, (1, 2, 0)), ("leave", DATA, "free", None),
            ("leave", D, "desc", None),
        ]

    def test_active(self):
        self.waits(self.CALL, self.AHEAD, LEAF, 1, ("data", DATA), lambda n: self.behind("destroyed"), "active")
        memory = realm()
        do(memory, self.CALL)
        self.assertEqual(map_of(memory, ROOT)[PAGE], "destroyed")
        self.assertEqual((memory.status(DATA), memory.words(DATA)), (("free", None, None), (0, 0, 0, 0)))
        self.assertEqual(memory.words(D), ("active", ROOT, MEASURE, (1, 2, 0)))

    def test_dying(self):
        self.waits(self.CALL, self.AHEAD, LEAF, 1, ("data", DATA), lambda n: self.behind(None), "dying")
        memory = realm("dying")
        do(memory, self.CALL)
        self.assertEqual(map_of(memory, ROOT)[PAGE], None)

    def test_what_is_asked(self):
        self.asks_for_realm(self.CALL, self.AHEAD, 1, ("active", "dying"), "active")
        for state in ("active", "dying"):
            self.asks_for_entry(self.CALL, self.AHEAD, 5, PAGE, ("data", "leaving"), state, 1)
        # There is no other question for the page.
        high = self.AHEAD[:3] + [("read", ROOT, 2), ("read", HIGH_LEAF, 2)]
        self.fails(("data_destroy", D, HIGH_PAGE), high, 5)
        self.fails(("data_destroy", D, 15), self.AHEAD[:3] + [("read", ROOT, 3)], 4)

    def test_what_was_active_when_it_was_read(self):
        memory = realm()
        call = Call(memory, 0, self.CALL)
        call.step(), call.step()
        write(memory, D, "dying")
        self.assertEqual(finish(call), ("ok",))
        self.assertEqual(map_of(memory, ROOT)[PAGE], "destroyed")

    def test_busy(self):
        self.is_busy_where_it_holds(realm, self.CALL, self.AHEAD, 1)


class TableDestroyTest(WaitingCase):
    CALL = ("table_destroy", D, 0)
    AHEAD = [("hold", D), ("read", D, 0), ("read", D, 1), ("read", ROOT, 0)]
    READS = [("read", LEAF, i) for i in range(4)]
    BEHIND = [
        *wipes(LEAF), ("write", ROOT, 0, None), ("read", D, 3), ("write", D, 3, (1, 1, 1)), ("leave", LEAF, "free", None),
        ("leave", D, "desc", None),
    ]

    def does(self, call, expected, state="active", changes=(), processor=0, n=1):
        # The leaf table is empty, but for what the changes tell.
        return RealmCase.does(self, call, expected, state, [put(LEAF, 1, None), *changes], processor, n)

    def there(self, state, q, realm_of_it, drop):
        memory = WaitingCase.there(self, state, q, realm_of_it, drop)
        write(memory, LEAF, None, None, None, None)
        return memory

    def test_work(self):
        for state in ("new", "active", "dying"):
            self.waits(self.CALL, self.AHEAD + self.READS, ROOT, 0, ("table", LEAF), lambda n: self.BEHIND, state)
        for state in MOVING:
            self.does(
                self.CALL, self.AHEAD + self.READS + [
                    ("write", ROOT, 0, ("leaving", LEAF, None)), ("ticket",), ("write", ROOT, 0, ("leaving", LEAF, 1)),
                    ("seen", 0), ("seen", 1), ("seen", 2), ("hold", LEAF), *self.BEHIND,
                ], state,
            )

    def test_what_it_leaves(self):
        memory = self.does(("table_destroy", D, 0), [
            *self.AHEAD, *self.READS, ("write", ROOT, 0, ("leaving", LEAF, None)), ("ticket",),
            ("write", ROOT, 0, ("leaving", LEAF, 1)), ("seen", 0), ("seen", 1), ("seen", 2), ("hold", LEAF), *self.BEHIND,
        ], "dying")
        self.assertEqual((memory.status(LEAF), memory.words(LEAF)), (("free", None, None), (0, 0, 0, 0)))
        self.assertEqual(memory.words(ROOT), (None, None, ("table", HIGH_LEAF), None))
        self.assertEqual(memory.words(D), ("dying", ROOT, MEASURE, (1, 1, 1)))

    def test_words_in_the_way(self):
        done = self.AHEAD + self.READS
        for i in range(4):
            for word in (
                ("data", DATA), ("leaving", DATA, None), ("leaving", DATA, 1), ("shared", SHARED), ("out", 1), "destroyed",
            ):
                changes = (put(LEAF, 1, None), put(LEAF, i, word))
                for state in ("new", "active") + MOVING:
                    self.fails(self.CALL, done, 8, *changes, state=state)
                if word[0] in ("data", "leaving"):
                    self.fails(self.CALL, done, 8, *changes, state="dying")
                else:
                    memory = realm("dying")
                    for change in changes:
                        change(memory)
                    self.assertEqual(finish(Call(memory, 0, self.CALL)), ("ok",))
                    self.assertEqual(memory.words(LEAF), (0, 0, 0, 0))

    def test_a_table_that_is_leaving_is_not_looked_at(self):
        for n in (None, 1):
            memory = realm()
            write(memory, ROOT, ("leaving", LEAF, n))
            do(memory, self.CALL)
            self.assertEqual(memory.status(LEAF), ("free", None, None))

    def test_what_is_asked(self):
        for other, owner in STATUSES.items():
            if other != "desc":
                self.fails(self.CALL, self.AHEAD, 1, status(D, other, owner))
        self.fails(self.CALL, self.AHEAD, 4, put(ROOT, 0, None))
        self.fails(("table_destroy", D, 1), self.AHEAD[:3] + [("read", ROOT, 1)], 4)
        self.fails(("table_destroy", D, 3), self.AHEAD[:3] + [("read", ROOT, 3)], 4, state="dying")

    def test_busy(self):
        self.is_busy_where_it_holds(realm, self.CALL, self.AHEAD, 1)
