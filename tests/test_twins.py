"""Points [57] to [61]."""

import random
import unittest

from hermitcell import twins
from hermitcell.audit import realms
from hermitcell.errors import NotValid
from hermitcell.memory import GRANULES
from hermitcell.twins import Twins, can_change, in_place, related
from hermitcell.views import Watch
from hermitcell.walls import WeakWorld
from hermitcell.words import Knowledge, strip
from hermitcell.world import World
from tests.helpers import NO_WORDS, challenge, contents, endless_list, nested, ranked, seal, ticket, token
from tests.hosts import PROGRAMS, REGISTERS, Drawn, finish, realm_acts

D, ROOT, LOW, HIGH, DATA, CPU, FREE, MORE = range(1, 9)
OTHER, OTHER_ROOT, OTHER_CPU = 9, 10, 11
SHARED, SOURCE = 20, 21
WORDS = (5, "x", (), None)
# Reads its secret, and goes on as the answer tells: the end, or a tell of it.
READER = (("load", 1, 0, 0), ("tell", 2, 2), ("zero", 2, 4), ("jump", 5), ("end",), ("tell", 1, 2), ("jump", 0))
NOTHING = (0, 0, 0, 0)


def known_of(*atoms):
    known = Knowledge()
    known.take(atoms)
    return known


class TwinsCase(unittest.TestCase):
    def begin(self, program=READER, registers=NOTHING, world=None):
        """A watch of a world with two realms, the first of which has secrets in page 0 and in its virtual processor."""
        self.watch = Watch(World("here") if world is None else world)
        for i, word in enumerate(WORDS):
            self.watch.act(("host", 0, ("write", SOURCE, i, word)))
        for call in [("delegate", g) for g in range(1, 12)] + [
            ("create", D, ROOT), ("table_create", D, LOW, 0), ("table_create", D, HIGH, 2), ("data_create", D, DATA, SOURCE, 0),
            ("share", D, 8, SHARED), ("cpu_create", D, CPU, program, registers), ("activate", D), ("create", OTHER, OTHER_ROOT),
            ("cpu_create", OTHER, OTHER_CPU, (("tell", 0, 0), ("jump", 0)), NOTHING), ("activate", OTHER),
        ]:
            self.does(call, doer=self.watch.act)

    def does(self, call, p=0, doer=None):
        """Makes a call that does its work; returns its answers in both worlds, or the one answer."""
        answer = finish(doer, call, p)
        self.assertEqual(answer[0], "ok", call)
        return answer

    def twin(self, *changes):
        self.twins = Twins(self.watch, D, dict(changes))
        return self.twins

    def make(self, call, p=0):
        """Makes a call in both worlds, to the end in the first one; returns both answers."""
        results = self.twins.act(("call", p, call))
        while results[0] is None:
            results = self.twins.act(("step", p))
        return tuple(result[-1] if result else None for result in results)

    def worlds(self):
        return tuple(watch.world() for watch in self.twins.watches())

    def memories(self):
        return tuple(world.memory() for world in self.worlds())

    def holds(self, parted=None):
        """The secrecy holds up to here."""
        self.assertEqual((self.twins.parted(), self.twins.fault()), (parted, None))
        if parted is None:
            one, other = self.worlds()
            self.assertEqual(related(one, other, D), "")
            self.assertEqual([strip(result) for _, result in one.view()], [strip(result) for _, result in other.view()])

    def number(self):
        return len(self.worlds()[0].view())


class InPlaceTest(unittest.TestCase):
    def test_all_is_defined_in_its_file(self):
        for each in (in_place, related, can_change, Twins):
            self.assertEqual(each.__module__, twins.__name__)

    def test_the_same_when_stripped(self):
        mine, other = seal(1, 2, (1, 2, 3, 4)), seal(1, 2, (5, 6, 7, 8))
        known = known_of(challenge(0), other, token(other), ticket(measure=(other,)))
        for value, expected in (
            ((mine,), (other,)), (("host", 0, ("write", 3, 0, mine)), ("host", 0, ("write", 3, 0, other))),
            (("x", (mine, (mine, 1))), ("x", (other, (other, 1)))), ((token(mine),), (token(other),)),
            ((ticket(measure=(mine,)), mine), (ticket(measure=(other,)), other)), ((seal(1, 2, None),), (other,)),
            ((other,), (other,)),
        ):
            self.assertEqual(in_place(known, value), expected)
        # A token of a token that holds it is none of what it knows: it stays as it is.
        for value in (
            (token(token(mine)),), (seal(1, 3),), (seal(2, 2),), (seal(1, 2, source="n"),), (seal(1, 2, kind="page"),),
            (challenge(1),),
        ):
            self.assertEqual(in_place(known, value), value)

    def test_the_first_of_several(self):
        first, second = seal(1, 2, (1, 1, 1, 1)), seal(1, 2, (2, 2, 2, 2))
        for value in (first, second, seal(1, 2, None), seal(1, 2, (3, 3, 3, 3))):
            self.assertEqual(in_place(known_of(challenge(1), first, second), ("x", value)), ("x", first))
            self.assertEqual(in_place(known_of(second, first), ("x", value)), ("x", second))

    def test_what_is_no_atom_stays(self):
        thing, row = object(), [seal()]
        known = known_of(seal(words=(0, 0, 0, 0)))
        for value in ((), ("step", 0), ("host", 0, thing), ("call", 0, row), (1.5, True, None, "x", {}, b"x")):
            found = in_place(known, value)
            self.assertEqual(found, value)
        self.assertIs(in_place(known, ("call", 0, row))[2], row)
        self.assertIs(in_place(known, ("host", 0, thing))[2], thing)
        endless = endless_list()
        self.assertIs(in_place(known, ("call", 0, endless))[2], endless)
        self.assertEqual(len(in_place(known, nested(5000))), 1)

    def test_nothing_is_changed(self):
        known = known_of(seal(words=(0, 0, 0, 0)))
        value = ("call", 0, (seal(), ("x", seal())))
        in_place(known, value)
        self.assertEqual(value, ("call", 0, (seal(), ("x", seal()))))
        self.assertEqual(known.atoms(), [seal(words=(0, 0, 0, 0))])


class RelatedTest(TwinsCase):
    def setUp(self):
        self.begin()
        self.one = self.watch.world()

    def tells(self, word, *changes, one=None, d=D):
        """The first word is this if the second world is changed so; one is a change of the first."""
        first, other = self.one.copy(), self.one.copy()
        if one is not None:
            one(first)
        for change in changes:
            change(other)
        before = contents(first.memory()), contents(other.memory())
        self.assertEqual(related(first, other, d), word)
        self.assertEqual(related(other, first, d), word)
        self.assertEqual((contents(first.memory()), contents(other.memory())), before)

    def access(self, request, actor=("monitor", 0)):
        return lambda world: world.memory().access(actor, request)

    def put(self, g, i, word):
        return lambda world: world.memory().change(g, i, word)

    def test_worlds_that_are_the_same(self):
        self.tells("")
        self.tells("", d=OTHER)
        self.tells("", d=23)

    def test_status(self):
        for request in (
            ("leave", SHARED, "free", None), ("hold", DATA), ("hold", 23), ("swap", CPU, "cpu", "running"),
            ("leave", FREE, "data", D),
        ):
            self.tells("status", self.access(request))

    def test_words(self):
        for g in (0, D, ROOT, LOW, HIGH, OTHER, OTHER_CPU, SHARED):
            for i in range(4):
                self.tells("words", self.put(g, i, "another"))
                if g != D:
                    self.tells("words", self.put(g, i, "another"), d=OTHER if g != OTHER_CPU else D)

    def test_words_that_may_differ(self):
        for g in (FREE, MORE, DATA, CPU):
            for i in range(4):
                self.tells("", self.put(g, i, "another"))
        # They are those of the granule d alone, and those of virtual processors that run, too.
        self.tells("words", self.put(DATA, 0, "another"), d=OTHER)
        self.tells("words", self.put(CPU, 1, "another"), d=OTHER)
        self.tells("", self.put(OTHER_CPU, 1, "another"), d=OTHER)
        self.one.memory().access(("monitor", 0), ("swap", CPU, "cpu", "running"))
        self.tells("", self.put(CPU, 1, "another"))
        # A data granule that somebody holds is still one.
        self.one.memory().access(("monitor", 0), ("hold", DATA))
        self.tells("", self.put(DATA, 1, "another"))

    def test_words_are_stripped(self):
        mine, other = seal(words=(1, 2, 3, 4)), seal(words=(5, 6, 7, 8))
        for one, two in (
            (mine, other), ((mine, "x"), (other, "x")), (token(mine), token(other)),
            (seal(kind="page"), seal(kind="page", words=None)),
        ):
            self.tells("", self.put(SHARED, 2, two), one=self.put(SHARED, 2, one))
        self.tells("words", self.put(SHARED, 2, seal(2)), one=self.put(SHARED, 2, mine))
        self.tells("words", self.put(SHARED, 2, challenge(2)), one=self.put(SHARED, 2, challenge(1)))
        self.tells("words", self.put(SHARED, 2, token(mine, "n")), one=self.put(SHARED, 2, token(mine)))

    def test_processors(self):
        for p in range(3):
            for request in (("present", D), ("present", OTHER)):
                self.tells("processors", self.access(request, ("monitor", p)))
            self.tells("processors", self.access(("walk", ROOT, 0), ("core", p)))
            row = (self.access(("walk", ROOT, 0), ("core", p)), self.access(("leaf", 0, LOW, 0), ("core", p)))
            self.tells("processors", *row)
        self.tells("processors", self.access(("ticket",)))
        self.one.memory().access(("monitor", 0), ("ticket",))
        self.tells("processors", self.access(("drop",), ("host", 1)))

    def test_rows_of_those_that_are_present(self):
        self.one.memory().access(("monitor", 1), ("present", D))
        row = (self.access(("walk", ROOT, 0), ("core", 1)), self.access(("leaf", 0, LOW, 0), ("core", 1)))
        self.tells("", *row)
        self.tells("", row[0])
        self.tells("processors", row[0], d=OTHER)
        self.tells("processors", *row, d=OTHER)
        self.one.memory().access(("monitor", 0), ("ticket",))
        self.tells("processors", self.access(("drop",), ("host", 1)))

    def test_what_was_told_once_is_not_compared(self):
        self.tells("", self.access(("once", 1)))

    def begins(self, call, steps=0, p=0):
        def change(world):
            world.act(("call", p, call))
            for _ in range(steps):
                world.act(("step", p))
        return change

    def test_calls(self):
        self.tells("calls", self.begins(("delegate", 0)))
        self.tells("calls", self.begins(("delegate", 0)), one=self.begins(("delegate", 12)))
        self.tells("calls", self.begins(("enter", CPU, 0)), one=self.begins(("enter", CPU, 1)))
        self.tells("calls", self.begins(("freeze", D), 1), one=self.begins(("thaw", D), 1))
        self.tells("status", self.begins(("freeze", D), 1), one=self.begins(("freeze", D), 0))
        self.tells("calls", self.begins(("freeze", D), 2), one=self.begins(("freeze", D), 1))
        self.tells("", self.begins(("freeze", D), 2), one=self.begins(("freeze", D), 2))

    def test_what_a_call_has_read(self):
        def reads(word):
            def change(world):
                world.memory().change(LOW, 1, word)
                world.act(("call", 0, ("data_fresh", D, FREE, 1)))
                for _ in range(6):
                    world.act(("step", 0))
                world.memory().change(LOW, 1, None)
            return change
        self.tells("", reads(None), one=reads(None))
        self.tells("calls", reads("destroyed"), one=reads(None))

    def test_what_a_virtual_processor_holds_is_not_compared(self):
        def enters(registers, steps):
            def change(world):
                world.memory().change(CPU, 1, registers)
                world.act(("call", 1, ("enter", CPU, "w")))
                for _ in range(steps):
                    world.act(("step", 1))
            return change
        for steps in range(12):
            self.tells("", enters(NOTHING, steps), one=enters((1, 2, 3, 0), steps))
        self.tells("calls", enters(NOTHING, 11), one=enters(NOTHING, 10))

    def test_what_a_seal_will_hold_is_not_compared(self):
        for call in (("seal", D, 0), ("seal_cpu", D, CPU)):
            for steps in range(11):
                def change(world, word):
                    world.memory().change(D, 0, ("frozen", 1))
                    world.memory().change(DATA, 0, word)
                    world.memory().change(CPU, 1, (word, 0, 0, 0))
                    world.act(("call", 0, call))
                    for _ in range(steps):
                        world.act(("step", 0))
                self.tells("", lambda world: change(world, 1), one=lambda world: change(world, 2))
        for steps in range(27):
            def change(world, word):
                world.memory().change(DATA, 0, word)
                world.act(("call", 0, ("page_out", D, 0)))
                for _ in range(steps):
                    world.act(("step", 0))
            self.tells("", lambda world: change(world, 1), one=lambda world: change(world, 2))

    def test_has(self):
        def takes(*atoms):
            return lambda world: world.known().take(atoms)
        self.tells("has", takes(challenge(1)))
        self.tells("has", takes(challenge(1)), one=takes(challenge(2)))
        self.tells("has", takes(challenge(1), challenge(2)), one=takes(challenge(2), challenge(1)))
        self.tells("", takes(challenge(1), seal(words=None)), one=takes(challenge(1), seal()))
        self.tells("has", takes(seal(), challenge(1)), one=takes(challenge(1), seal(words=None)))
        self.tells("has", takes(seal(), seal(words=None)), one=takes(seal()))

    def test_the_first_of_two_that_apply(self):
        each = (
            ("status", self.access(("hold", 23))), ("words", self.put(0, 0, 1)), ("processors", self.access(("ticket",))),
            ("calls", self.begins(("delegate", 0), p=2)), ("has", lambda world: world.known().take(challenge(1))),
        )
        for at, (word, change) in enumerate(each):
            self.tells(word, change)
            for _, later in each[at + 1:]:
                self.tells(word, change, later)
                self.tells(word, later, one=change)


class ChangeTest(TwinsCase):
    def setUp(self):
        self.begin()
        self.world = self.watch.world()

    def asks(self, expected, *rest):
        self.assertIs(can_change(self.world, *rest), expected, rest)

    def both(self, expected):
        self.asks(expected, D, DATA, 0, 7)
        self.asks(expected, D, CPU, 1, NOTHING)

    def test_what_can_be_changed(self):
        for i in range(4):
            for word in (None, 0, "x", (), NOTHING, nested(10), ranked(36), seal(), challenge(9)):
                self.asks(True, D, DATA, i, word)
        for registers in (NOTHING, (1, "x", None, nested(10)), (ranked(36), seal(), challenge(9), ())):
            self.asks(True, D, CPU, 1, registers)

    def test_words(self):
        for word in NO_WORDS + (nested(11), ranked(37), (ranked(37),)):
            self.asks(False, D, DATA, 0, word)
        for word in NO_WORDS + (
            None, 0, "x", (), (0,) * 3, (0,) * 5, [0] * 4, (nested(11), 0, 0, 0), (0, 0, 0, ranked(37)), (True, 0, 0, 0),
            challenge(0),
        ):
            self.asks(False, D, CPU, 1, word)

    def test_numbers_of_words(self):
        for i in NO_WORDS + (4, -1, None, "0", (0,), challenge(0)):
            self.asks(False, D, DATA, i, 7)
            self.asks(False, D, CPU, i, NOTHING)
        for i in (0, 2, 3):
            self.asks(False, D, CPU, i, NOTHING)

    def test_granules(self):
        for g in NO_WORDS + (
            24, -1, None, "5", (5,), challenge(0), 0, D, ROOT, LOW, HIGH, FREE, OTHER, OTHER_ROOT, OTHER_CPU, SHARED,
        ):
            for i in (0, 1):
                self.asks(False, D, g, i, NOTHING)
        for d in NO_WORDS + (24, -1, None, "1", (1,), challenge(0), 0, ROOT, DATA, CPU, FREE, OTHER, SHARED):
            self.asks(False, d, DATA, 0, 7)
            self.asks(False, d, CPU, 1, NOTHING)
        self.asks(True, OTHER, OTHER_CPU, 1, NOTHING)

    def test_each_condition(self):
        memory = self.world.memory()
        self.both(True)
        for p in range(3):
            memory.access(("monitor", p), ("present", D))
            self.both(False)
            memory.access(("monitor", p), ("present", OTHER))
            self.both(True)
            memory.access(("monitor", p), ("present", None))
        for g, expected in ((D, (False, False)), (DATA, (False, True)), (CPU, (True, False)), (LOW, (True, True))):
            memory.access(("monitor", 1), ("hold", g))
            self.asks(expected[0], D, DATA, 0, 7)
            self.asks(expected[1], D, CPU, 1, NOTHING)
            memory.access(("monitor", 1), ("release", g))
        for state in ("new", "dying", ("freezing", 1), ("frozen", 1), ("gone", 1, "x"), ("coming", ticket(), ()), 0, None):
            memory.change(D, 0, state)
            self.both(False)
        memory.change(D, 0, "active")
        self.both(True)
        memory.access(("monitor", 0), ("swap", CPU, "cpu", "running"))
        self.asks(False, D, CPU, 1, NOTHING)
        self.asks(True, D, DATA, 0, 7)
        memory.access(("monitor", 0), ("leave", D, "free", None))
        self.both(False)

    def test_it_is_no_access_and_changes_nothing(self):
        before = contents(self.world.memory())
        self.both(True)
        self.assertEqual(contents(self.world.memory()), before)


class MakingTest(TwinsCase):
    def test_the_worlds(self):
        self.begin()
        before = contents(self.watch.world().memory())
        made = self.twin(((DATA, 0), 6), ((DATA, 3), "y"), ((CPU, 1), (1, 2, 3, 4)))
        one, other = made.watches()
        self.assertIs(type(made.watches()), tuple)
        self.assertEqual(contents(one.world().memory()), before)
        self.assertEqual(contents(self.watch.world().memory()), before)
        self.assertEqual(other.world().memory().words(DATA), (6, "x", (), "y"))
        self.assertEqual(other.world().memory().words(CPU)[1], (1, 2, 3, 4))
        self.assertEqual(other.world().memory().log(), one.world().memory().log())
        self.assertEqual((made.parted(), made.fault()), (None, None))
        self.assertEqual(related(one.world(), other.world(), D), "")
        # All three go their own ways.
        self.make(("delegate", 15))
        self.assertEqual(contents(self.watch.world().memory()), before)
        self.watch.act(("drop", 0))
        self.assertEqual(len(one.world().view()), len(other.world().view()))

    def test_wrong_changes(self):
        self.begin()
        before = contents(self.watch.world().memory())
        for place, word in (
            ((DATA, 4), 7), ((DATA, 0), nested(11)), ((CPU, 0), 1), ((CPU, 1), (0, 0, 0)), ((FREE, 0), 7),
            ((OTHER_CPU, 1), NOTHING),
            ((24, 0), 7), ((DATA,), 7), ((DATA, 0, 0), 7), (DATA, 7), ((DATA, True), 7), ((DATA, 0), [7]), (None, 7), ("50", 7),
        ):
            with self.assertRaises(NotValid):
                Twins(self.watch, D, {place: word})
            with self.assertRaises(NotValid):
                Twins(self.watch, D, {(DATA, 0): 7, place: word})
        self.assertEqual(contents(self.watch.world().memory()), before)

    def test_granules_without_a_realm(self):
        self.begin()
        for d in NO_WORDS + (0, ROOT, DATA, FREE, SHARED, 23, 24, -1, None, "1"):
            with self.assertRaises(NotValid):
                Twins(self.watch, d, {})
        finish(self.watch.act, ("kill", OTHER)), finish(self.watch.act, ("cpu_destroy", OTHER, OTHER_CPU))
        self.assertEqual(finish(self.watch.act, ("destroy", OTHER)), ("ok",))
        with self.assertRaises(NotValid):
            Twins(self.watch, OTHER, {})

    def test_an_empty_dict(self):
        self.begin()
        self.twin()
        changes = {}
        Twins(self.watch, D, changes)
        self.assertEqual(changes, {})
        for call in (("enter", CPU, 0), ("enter", CPU, 1), ("page_out", D, 0), ("freeze", D), ("seal_cpu", D, CPU)):
            one, other = self.make(call)
            self.assertEqual(one, other)
        self.holds()

    def test_the_dict_is_not_changed(self):
        self.begin()
        changes = {(DATA, 0): 6}
        Twins(self.watch, D, changes)
        self.assertEqual(changes, {(DATA, 0): 6})

    def test_wrong_acts(self):
        self.begin()
        self.twin(((DATA, 0), 6))
        before = [(contents(memory), world.view()) for memory, world in zip(self.memories(), self.worlds())]
        for act in NO_WORDS + (
            None, 0, (), ("step",), ("step", 3), ["step", 0], ("host", 0), ("host", 0, ("write", 3, 0, challenge(1))),
            ("call", 0, ("enter", CPU, seal())), ("call", 0, ("come", 7, 8, ticket())), ("call", 0, challenge(1)),
            ("host", 0, ("nothing", ((challenge(3),),))),
        ):
            with self.assertRaises(NotValid):
                self.twins.act(act)
        self.assertEqual([(contents(memory), world.view()) for memory, world in zip(self.memories(), self.worlds())], before)
        # What cannot be is an act: so it is with a request that is none.
        self.assertEqual(self.twins.act(("host", 0, [challenge(1)])), (("cannot",), ("cannot",)))
        self.holds()


class SecrecyTest(TwinsCase):
    """Point [59]."""

    def enters(self, word=0, p=1):
        """The numbers of the acts with which an enter came to its end."""
        return self.make(("enter", CPU, word), p)

    def test_a_secret_that_is_not_told(self):
        self.begin()
        self.twin(((DATA, 0), 6), ((DATA, 1), seal()))
        self.assertEqual(self.enters(), (("told", 0),) * 2)
        self.holds()
        self.assertEqual([memory.words(CPU)[1][1] for memory in self.memories()], [5, 6])
        self.assertEqual(self.enters(0), (("ended",),) * 2)
        self.holds()

    def test_a_secret_that_is_told(self):
        self.begin()
        self.twin(((DATA, 0), 6))
        self.enters()
        number = self.number() + 12
        self.assertEqual(self.enters(1), (("told", 5), ("told", 6)))
        self.holds(number)
        # From there on nothing is promised, and nothing noted.
        self.make(("enter", CPU, 1))
        self.holds(number)

    def test_a_secret_that_is_told_by_the_number_of_steps(self):
        self.begin((("load", 1, 0, 0), ("zero", 1, 3), ("tell", 0, 2), ("tell", 0, 2), ("end",)))
        self.twin(((DATA, 0), 0))
        # Both come to a tell with the same step, and tell the same.
        self.assertEqual(self.enters(), (("told", 0),) * 2)
        self.holds()
        self.begin((("load", 1, 0, 0), ("zero", 1, 3), ("jump", 3), ("tell", 0, 2), ("end",)))
        self.twin(((DATA, 0), 0))
        number = self.number() + 1 + 9 + 4 + 1
        self.make(("enter", CPU, 0), 1)
        self.holds(number)

    def test_a_secret_that_is_told_by_a_fault(self):
        self.begin((("load", 1, 0, 0), ("load", 2, 1, 3), ("tell", 0, 0), ("end",)))
        self.twin(((DATA, 0), 4))
        for memory in self.memories():
            self.assertEqual(memory.words(DATA)[1], "x")
        number = self.number() + 1 + 9 + 4 + 1
        # Neither page 5 nor page 4 has a leaf table: both fault with the same step, for another page.
        self.assertEqual(self.enters(), (("fault", 5), ("fault", 4)))
        self.holds(number)

    def test_a_secret_that_is_stored_in_a_shared_page(self):
        self.begin((("load", 1, 0, 0), ("set", 2, 8), ("store", 2, 0, 1), ("end",)))
        self.twin(((DATA, 0), 6))
        number = self.number() + 1 + 9 + 4 + 1 + 3
        self.assertEqual(self.enters(), (("ended",), ("ended",)))
        self.holds(number)
        self.assertEqual([memory.words(SHARED)[0] for memory in self.memories()], [5, 6])

    def test_a_secret_place_in_a_shared_page(self):
        self.begin((("store", 2, 1, 0), ("end",)), (0, 1, 8, 0))
        self.twin(((CPU, 1), (0, 2, 8, 0)))
        number = self.number() + 1 + 9 + 3
        self.enters()
        self.holds(number)

    def test_a_secret_that_is_stuck(self):
        self.begin((("load", 1, 0, 0), ("add", 2, 1, 1), ("tell", 0, 0), ("end",)))
        self.twin(((DATA, 0), "no number"))
        number = self.number() + 1 + 9 + 4
        self.make(("enter", CPU, 0), 1)
        self.holds(number)

    def test_secrets_in_registers(self):
        self.begin((("tell", 0, 1), ("tell", 3, 1), ("end",)))
        self.twin(((CPU, 1), (0, 7, 7, 7)))
        self.assertEqual(self.enters(), (("told", 0),) * 2)
        self.holds()
        self.make(("freeze", D))
        one, other = self.make(("seal_cpu", D, CPU))
        self.assertNotEqual(one, other)
        self.assertEqual(strip(one), strip(other))
        self.make(("thaw", D))
        self.holds()
        number = self.number() + 10
        self.assertEqual(self.enters(), (("told", 0), ("told", 7)))
        self.holds(number)

    def test_a_page_that_is_put_out_and_back(self):
        self.begin()
        self.twin(((DATA, 0), 6))
        answers = self.make(("page_out", D, 0))
        self.assertEqual([answer[1].term[3][0] for answer in answers], [5, 6])
        self.holds()
        # The host hands on what it has in the first world; in the second one its own atom is put in place.
        atom = answers[0][1]
        self.assertEqual(self.twins.act(("host", 0, ("write", SOURCE, 0, (atom, "mine")))), (("done",),) * 2)
        self.assertEqual([memory.words(SOURCE)[0][0] for memory in self.memories()], [answer[1] for answer in answers])
        self.holds()
        self.assertEqual(self.make(("page_in", D, FREE, 0, atom)), (("ok",),) * 2)
        self.holds()
        self.assertEqual([memory.words(FREE)[0] for memory in self.memories()], [5, 6])
        self.enters(), self.holds()
        number = self.number() + 12
        self.enters(1)
        self.holds(number)

    def test_a_realm_that_is_frozen_sealed_and_gone(self):
        self.begin()
        self.twin(((DATA, 0), 6), ((CPU, 1), (0, 0, 0, "z")))
        for call in (("freeze", D), ("seal", D, 0), ("seal_cpu", D, CPU), ("give", D, "there"), ("ticket", D), ("seal", D, 0)):
            one, other = self.make(call)
            self.assertEqual(strip(one), strip(other))
            self.holds()
        self.assertEqual(len(self.worlds()[0].known().atoms()), 3)

    def test_a_realm_that_is_killed_and_wiped(self):
        self.begin()
        self.twin(((DATA, 0), 6), ((CPU, 1), (0, 0, 0, "z")))
        for call in (
            ("kill", D), ("data_destroy", D, 0), ("cpu_destroy", D, CPU), ("table_destroy", D, 0), ("undelegate", DATA),
            ("undelegate", CPU),
        ):
            self.assertEqual(self.make(call), (("ok",),) * 2)
            self.holds()
        for g in (DATA, CPU):
            for i in range(4):
                self.assertEqual(self.twins.act(("host", 0, ("read", g, i))), (("word", 0),) * 2)
        self.holds()

    def test_while_it_runs(self):
        self.begin((("load", 1, 0, 0), ("zero", 1, 3), ("jump", 0), ("jump", 3)))
        self.twin(((DATA, 0), 0))
        self.twins.act(("call", 1, ("enter", CPU, 0)))
        # They go other ways, and make other accesses; the host sees nothing of it.
        for _ in range(40):
            self.assertEqual(self.twins.act(("step", 1)), (None, None))
            self.holds()
        self.assertNotEqual(*[len(memory.log()) for memory in self.memories()])
        self.twins.act(("interrupt", 1))
        for _ in range(5):
            self.twins.act(("step", 1))
            self.holds()
        self.assertEqual(self.worlds()[0].view()[-1][1], ("answer", ("interrupted",)))

    def test_atoms_that_a_realm_tells_are_put_in_place(self):
        self.begin((("tell", 0, 1), ("tell", 1, 1), ("end",)))
        self.twin(((DATA, 0), 6))
        atom = self.make(("page_out", D, 0))[0][1]
        self.enters()
        self.assertEqual(self.enters((atom, 1)), (("told", (atom, 1)), ("told", (self.worlds()[1].known().atoms()[0], 1))))
        self.holds()


class FaultTest(TwinsCase):
    """What is noted if the secrecy does not hold: a wall is left out, or somebody changes a world."""

    def test_without_wiping(self):
        self.begin(world=WeakWorld("here", "wipe"))
        self.twin(((DATA, 0), 6))
        self.make(("kill", D))
        self.holds()
        number = self.number() + 1
        self.make(("data_destroy", D, 0))
        self.assertIsNone(self.twins.parted())
        at, word = self.twins.fault()
        self.assertEqual(word, "calls")
        self.assertGreater(at, number)
        # It is the first one that counts.
        self.make(("undelegate", DATA))
        self.assertEqual(self.twins.act(("host", 0, ("read", DATA, 0))), (("word", 5), ("word", 6)))
        self.assertEqual(self.twins.fault(), (at, "calls"))

    def changed(self, act, word, *changes):
        """With the act the fault of this word is found, when these words of the second world are changed."""
        self.begin()
        self.twin(((DATA, 0), 6))
        self.twins.act(("drop", 2))
        self.holds()
        for g, i, other in changes:
            self.memories()[1].change(g, i, other)
        number = self.number()
        self.twins.act(act)
        self.assertEqual((self.twins.fault(), self.twins.parted()), ((number, word), None))
        self.twins.act(("drop", 0))
        self.assertEqual(self.twins.fault(), (number, word))

    def test_each_word(self):
        self.changed(("host", 0, ("read", SHARED, 0)), "results", (SHARED, 0, 1))
        self.changed(("host", 0, ("read", SHARED, 1)), "words", (SHARED, 0, 1))
        self.changed(("drop", 0), "words", (ROOT, 3, 1))

    def test_each_word_of_other_changes(self):
        for word, change in (
            ("status", lambda world: world.memory().access(("monitor", 0), ("hold", 23))),
            ("processors", lambda world: world.memory().access(("monitor", 0), ("ticket",))),
            ("calls", lambda world: world.act(("call", 2, ("delegate", 0)))),
            ("has", lambda world: world.known().take(challenge(1))),
        ):
            self.begin()
            self.twin(((DATA, 0), 6))
            change(self.worlds()[1])
            number = self.number()
            self.twins.act(("drop", 0))
            self.assertEqual(self.twins.fault(), (number, word))

    def test_results_come_first(self):
        self.changed(("host", 0, ("read", SHARED, 0)), "results", (SHARED, 0, 1), (SHARED, 1, 2))

    def test_results_are_stripped(self):
        self.begin()
        self.twin(((DATA, 0), 6))
        for memory, words in zip(self.memories(), ((1, 2, 3, 4), (5, 6, 7, 8))):
            memory.change(SHARED, 0, seal(words=words))
        one, other = self.twins.act(("host", 0, ("read", SHARED, 0)))
        self.assertNotEqual(one, other)
        self.holds()

    def test_others(self):
        """Point [60]: another realm told or made something else, and all else is the same."""
        self.begin()
        self.twin(((DATA, 0), 6))
        self.twins.act(("call", 1, ("enter", OTHER_CPU, 0)))
        for _ in range(9):
            self.twins.act(("step", 1))
        self.holds()
        # What another realm's processor holds shows in no state of its call, but in what it makes and tells.
        self.worlds()[1].call(1).core().program = (("set", 0, 0), ("tell", 0, 0), ("jump", 0))
        number = self.number()
        self.twins.act(("step", 1))
        self.assertEqual(self.twins.fault(), (number, "calls"))
        self.begin()
        self.twin(((DATA, 0), 6))
        self.twins.act(("call", 1, ("enter", OTHER_CPU, 0)))
        for _ in range(8):
            self.twins.act(("step", 1))
        self.worlds()[1].call(1)._call = ("enter", OTHER_CPU, 0)
        self.twins.watches()[1]._calls[1] = ("enter", OTHER_CPU, "another word")
        number = self.number()
        self.twins.act(("step", 1))
        self.assertEqual(self.twins.fault(), (number, "others"))

    def test_a_fault_at_the_act_at_which_they_part(self):
        self.begin()
        self.twin(((DATA, 0), 6))
        self.make(("enter", CPU, 0), 1)
        self.twins.act(("call", 1, ("enter", CPU, 1)))
        for _ in range(11):
            self.twins.act(("step", 1))
        self.memories()[1].change(SHARED, 0, 1)
        number = self.number()
        self.twins.act(("step", 1))
        self.holds(number)

    def test_a_fault_ahead_of_the_act_at_which_they_part(self):
        self.begin()
        self.twin(((DATA, 0), 6))
        self.make(("enter", CPU, 0), 1)
        self.memories()[1].change(SHARED, 0, 1)
        number = self.number()
        self.make(("enter", CPU, 1), 1)
        self.assertEqual((self.twins.fault(), self.twins.parted()), ((number, "words"), number + 12))


class DrawnTest(unittest.TestCase):
    """Points [59] and [60] over drawn hosts."""

    def secrets(self, draw, watch):
        """Changes of a realm that has secrets now, as (d, dict), or None."""
        world, found = watch.world(), []
        memory = world.memory()
        for d in realms(memory):
            changes = {}
            for g in range(GRANULES):
                for i in range(4):
                    if memory.status(g)[0] == "data" and can_change(world, d, g, i, 0) and draw.random() < 0.6:
                        changes[g, i] = draw.choice((0, 1, 2, "secret", -5))
                if memory.status(g)[0] == "cpu" and can_change(world, d, g, 1, NOTHING) and draw.random() < 0.6:
                    registers = list(memory.words(g)[1])
                    registers[draw.randrange(4)] = draw.choice((0, 1, 2, "secret", -5))
                    changes[g, 1] = tuple(registers)
            if changes:
                found.append((d, changes))
        return draw.choice(found) if found else None

    def test_secrecy(self):
        counts = {"parted": 0, "whole": 0, "seals": 0}
        for seed in range(40):
            draw = random.Random(seed)
            watch = Watch(World("here"))
            host = Drawn(draw, moves=draw.choice((0, 0, 0.2)), ends=draw.choice((0, 0.1)), odd=0)
            for call in realm_acts(range(9), draw.choice(PROGRAMS), draw.choice(REGISTERS)):
                finish(watch.act, call)
            for g in range(9, 14):
                finish(watch.act, ("delegate", g))
            for _ in range(draw.choice((0, 0, 200, 600))):
                watch.act(host.act(watch.world()))
            found = None
            while found is None:
                watch.act(host.act(watch.world()))
                found = self.secrets(draw, watch) if len(watch.world().view()) < 3000 else (0, {})
            if watch.realm(found[0]) is not None:
                self.goes_on(draw, Twins(watch, *found), host, counts)
        for name, count in counts.items():
            self.assertGreater(count, 4, name)

    def goes_on(self, draw, made, host, counts):
        one, other = made.watches()
        for _ in range(500):
            act = host.act(one.world())
            results = made.act(act)
            self.assertIsNone(made.fault(), act)
            if made.parted() is not None:
                counts["parted"] += 1
                return
            self.assertEqual(strip(results[0]), strip(results[1]))
        counts["whole"] += 1
        counts["seals"] += one.world().known().atoms() != other.world().known().atoms()
