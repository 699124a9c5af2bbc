"""Points [42] to [44], and what [5] says of what a host can make."""

import unittest

from hermitcell import world as world_file
from hermitcell.calls import Call
from hermitcell.entering import Enter
from hermitcell.errors import NotValid
from hermitcell.memory import Memory
from hermitcell.moves import Move
from hermitcell.paging import Paging
from hermitcell.words import Atom, Knowledge
from hermitcell.world import MONITORS, Net, World
from tests.helpers import (
    NO_WORDS, TrickyText, challenge, contents, endless_list, nested, ranked, seal, ticket, token,
)
from tests.hosts import finish

CANNOT = ("cannot",)
PROGRAM = (("tell", 0, 1), ("tell", 1, 1), ("token", 2, 1), ("tell", 2, 1), ("end",))
CPU = 3
NO_ACTS = NO_WORDS + (
    None, 0, "step", (), ("step",), ("step", 0, 0), ("step", 3), ("step", -1), ("step", True), ("step", None), ("step", "0"),
    ("step", (0,)), ["step", 0], ("Step", 0), ("step ", 0), (TrickyText("step"), 0), (("step",), 0), ("halt", 0), ("", 0),
    (0, "step"),
    ("drop",), ("drop", 0, None), ("drop", 3), ("interrupt",), ("interrupt", 0, 0), ("interrupt", 4), ("host",), ("host", 0),
    ("host", 0, ("read", 1, 0), 0), ("host", 3, ("read", 1, 0)), ("host", True, ("read", 1, 0)), ("host", ("read", 1, 0), 0),
    ("call",), ("call", 0), ("call", 0, ("delegate", 1), None), ("call", 3, ("delegate", 1)), ("call", None, ("delegate", 1)),
    ("monitor", 0, ("read", 1, 0)), ("core", 0, ("walk", 1, 0)), ("read", 1, 0), ("delegate", 1), challenge(0), {"step": 0},
)


class WorldCase(unittest.TestCase):
    def setUp(self):
        self.world = World("here")

    def acts(self, act, result):
        """Does an act, whose result is this, and which the view has with it."""
        since = self.world.view()
        self.assertEqual(self.world.act(act), result, act)
        self.assertEqual(self.world.view(), since + [(act, result)])

    def cannot(self, act):
        """The act cannot be, and does nothing but that the view has it."""
        before = contents(self.world.memory())
        known, calls = self.world.known().atoms(), [self.world.call(p) for p in range(3)]
        states = [call and call.state() for call in calls]
        self.acts(act, CANNOT)
        self.assertEqual(contents(self.world.memory()), before)
        self.assertEqual(self.world.known().atoms(), known)
        self.assertEqual([self.world.call(p) for p in range(3)], calls)
        self.assertEqual([call and call.state() for call in calls], states)

    def does(self, call, p=0):
        answer = finish(self.world.act, call, p)
        self.assertEqual(answer[0], "ok", call)
        return answer

    def make_realm(self, program=PROGRAM, registers=("first", 0, 0, 0)):
        """A realm of the granules 1 and 2, with a virtual processor in granule 3, and 4 free."""
        for g in (1, 2, CPU, 4):
            self.does(("delegate", g))
        for call in (("create", 1, 2), ("cpu_create", 1, CPU, program, registers), ("activate", 1)):
            self.does(call)

    def enters(self, word, left):
        self.assertEqual(finish(self.world.act, ("enter", CPU, word)), left)


class FirstTest(WorldCase):
    def test_all_is_defined_in_its_file(self):
        self.assertEqual(MONITORS, 8)
        for each in (World, Net):
            self.assertEqual(each.__module__, world_file.__name__)

    def test_at_first(self):
        world = World("here")
        self.assertEqual((world.monitor, world.view(), world.known().atoms()), ("here", [], []))
        self.assertEqual(contents(world.memory()), contents(Memory()))
        self.assertEqual([world.call(p) for p in range(3)], [None] * 3)
        self.assertIs(type(world.memory()), Memory)
        self.assertIs(type(world.known()), Knowledge)

    def test_monitors(self):
        for monitor in NO_WORDS + (None, 0, "", ("here",), "a" * 25, "\n", challenge(0), Knowledge()):
            with self.assertRaises(NotValid):
                World(monitor)
            with self.assertRaises(NotValid):
                World(monitor, Knowledge())
        for monitor in ("a" * 24, " ", "~", "0"):
            self.assertEqual(World(monitor).monitor, monitor)

    def test_the_knowledge_that_is_passed_is_used_as_it_is(self):
        known = Knowledge()
        one, other = World("here", known), World("there", known)
        self.assertIs(one.known(), known)
        self.assertIs(other.known(), known)
        known.take(challenge(1))
        self.assertIs(one.knows(challenge(1)), True)
        self.assertIsNot(World("here").known(), World("here").known())

    def test_the_example(self):
        self.acts(("host", 0, ("write", 3, 0, 7)), ("done",))
        self.acts(("step", 0), CANNOT)

    def test_processors_that_do_not_exist(self):
        for p in NO_WORDS + (3, -1, None, "0"):
            with self.assertRaises(NotValid):
                self.world.call(p)


class NoActTest(WorldCase):
    def test_values_that_are_no_acts(self):
        before = contents(self.world.memory())
        for value in NO_ACTS:
            with self.assertRaises(NotValid):
                self.world.act(value)
        self.assertEqual(self.world.view(), [])
        self.assertEqual(contents(self.world.memory()), before)

    def test_requests_and_calls_may_be_anything(self):
        for value in NO_WORDS + (None, 0, "read", (), ("read",), challenge(0), ["read", 1, 0], {}, endless_list()):
            self.assertEqual(self.world.act(("host", 0, value)), CANNOT)
            self.assertEqual(self.world.act(("call", 1, value)), CANNOT)
        self.assertEqual({result for _, result in self.world.view()}, {CANNOT})
        self.assertEqual(contents(self.world.memory()), contents(Memory()))


class HostTest(WorldCase):
    def test_reads_and_writes(self):
        for p in range(3):
            self.acts(("host", p, ("write", 23, p, ("w", p))), ("done",))
            self.acts(("host", p, ("read", 23, p)), ("word", ("w", p)))
            self.assertEqual(self.world.memory().log()[-1][1:3], (("host", p), ("read", 23, p)))
        self.assertEqual(len(self.world.memory().log()), 6)

    def test_what_is_not_the_hosts(self):
        self.does(("delegate", 5))
        self.acts(("host", 1, ("read", 5, 0)), ("refused",))
        self.acts(("host", 1, ("write", 5, 0, 1)), ("refused",))

    def test_other_requests(self):
        for request in (
            ("drop",), ("copy", 1, 0), ("hold", 1), ("leave", 1, "free", None), ("release", 1), ("look", 1), ("ticket",),
            ("swap", 1, "cpu", "running"), ("rest", 1), ("present", 1), ("seen", 0), ("once", 1), ("walk", 1, 0),
            ("leaf", 0, 1, 0),
            ("touch", 0, 0), ("put", 0, 0, 1), ("read", 24, 0), ("read", 1, 4), ("read", 1), ("read", 1, 0, 0), ("write", 1, 0),
            ("write", 1, 4, 0), ("write", 24, 0, 0), ("write", 1, True, 0), ("write", 1, 0, True), ["read", 1, 0], ("Read", 1, 0),
        ):
            self.cannot(("host", 0, request))

    def test_words_of_hosts(self):
        known = self.world.known()
        for word in (ranked(36), ranked(37), ticket(), seal()):
            known.take(word)
        for word in (nested(10), ranked(36), (nested(9), ranked(36)), seal(), ticket()):
            self.acts(("host", 0, ("write", 1, 0, word)), ("done",))
        for word in (nested(11), (nested(10),), ranked(37), (ranked(37),), challenge(5), (0, (challenge(5),)), seal(2)):
            self.cannot(("host", 0, ("write", 1, 0, word)))

    def test_while_a_call_is_made(self):
        self.world.act(("call", 1, ("delegate", 5)))
        for request in (("read", 1, 0), ("write", 1, 0, 1)):
            self.cannot(("host", 1, request))
            self.assertNotEqual(self.world.act(("host", 0, request)), CANNOT)
        self.assertIsNone(self.world.act(("step", 1)))
        self.cannot(("host", 1, ("read", 1, 0)))
        self.assertEqual(self.world.act(("step", 1)), ("answer", ("ok",)))
        self.acts(("host", 1, ("read", 1, 0)), ("word", 1))


class DropTest(WorldCase):
    def test_always(self):
        memory = self.world.memory()
        for number in range(3):
            memory.access(("monitor", 0), ("ticket",))
            self.acts(("drop", number), None)
            self.assertEqual(memory.dropped(number), number + 1)
            self.assertEqual(memory.log()[-1][1:], (("host", number), ("drop",), None))

    def test_while_a_call_is_made(self):
        self.make_realm()
        for call in (("delegate", 5), ("enter", CPU, 0)):
            self.world.act(("call", 2, call))
            self.world.act(("step", 2))
            state = self.world.call(2).state()
            self.acts(("drop", 2), None)
            self.assertEqual(self.world.call(2).state(), state)
            while self.world.act(("step", 2)) is None:
                pass


class CallTest(WorldCase):
    def test_each_kind(self):
        for p, call, kind in (
            (0, ("delegate", 5), Call), (1, ("enter", 5, "x"), Enter), (2, ("page_out", 1, 0), Paging), (0, ("freeze", 1), Move),
        ):
            self.world = World("here")
            self.acts(("call", p, call), None)
            self.assertIs(type(self.world.call(p)), kind)
            self.assertEqual(self.world.memory().log(), [])
            # A processor makes one call at a time.
            self.cannot(("call", p, ("delegate", 5)))
            self.cannot(("call", p, call))
            for other in range(3):
                if other != p:
                    self.assertIsNone(self.world.call(other))
                    self.acts(("call", other, call), None)

    def test_what_is_no_call(self):
        for call in (
            ("delegate", 24), ("delegate",), ("create", 1, 1), ("enter", 5), ("enter", 5, nested(11)), ("enter", 5, True),
            ("page_out", 1, 16), ("page_in", 1, 2, 0, nested(11)), ("freeze", 24), ("give", 1, 2), ("come", 1, 1, None),
            ("read", 1, 0), ("drop",), ("step", 0), ["delegate", 5], (("delegate", 5),), "delegate",
            ("cpu_create", 1, 2, (), (0,) * 4),
            ("cpu_create", 1, 2, PROGRAM, (nested(11), 0, 0, 0)), ("cpu_create", 1, 2, PROGRAM, (ranked(37), 0, 0, 0)),
        ):
            self.cannot(("call", 0, call))

    def test_the_monitors_name(self):
        for name in ("here", "there"):
            self.world = World(name)
            self.make_realm((("token", 0, 1), ("tell", 0, 1), ("end",)))
            measure = self.world.memory().words(1)[2]
            self.enters(0, ("told", Atom("token", (name, measure, 0))))
            self.does(("freeze", 1))
            answer = self.does(("seal_cpu", 1, CPU))
            self.assertEqual(answer[1].term[:3], (name, 1, 8 + CPU))


class StepTest(WorldCase):
    def test_without_a_call(self):
        for p in range(3):
            self.cannot(("step", p))

    def test_steps_and_the_answer(self):
        self.acts(("call", 1, ("delegate", 5)), None)
        self.acts(("step", 1), None)
        self.assertEqual(self.world.memory().status(5), ("host", None, 1))
        self.cannot(("step", 0))
        self.acts(("step", 1), ("answer", ("ok",)))
        self.assertIsNone(self.world.call(1))
        self.cannot(("step", 1))
        self.assertEqual(finish(self.world.act, ("delegate", 5), 2), ("no",))

    def test_calls_in_a_weaving(self):
        self.world.act(("call", 0, ("delegate", 5)))
        self.world.act(("call", 1, ("delegate", 5)))
        self.acts(("step", 1), None)
        self.acts(("step", 0), ("answer", ("busy",)))
        # The host can stop a processor for ever.
        for _ in range(3):
            self.assertEqual(finish(self.world.act, ("delegate", 5), 0), ("busy",))
        self.acts(("step", 1), ("answer", ("ok",)))

    def test_a_step_of_a_realm_without_an_access(self):
        self.make_realm((("set", 0, 1), ("tell", 0, 1), ("end",)))
        self.world.act(("call", 0, ("enter", CPU, 0)))
        for _ in range(9):
            self.acts(("step", 0), None)
        many = len(self.world.memory().log())
        self.acts(("step", 0), None)
        self.acts(("step", 0), None)
        self.assertEqual(len(self.world.memory().log()), many)
        for _ in range(4):
            self.acts(("step", 0), None)
        self.acts(("step", 0), ("answer", ("told", 1)))


class InterruptTest(WorldCase):
    def test_what_enters_alone(self):
        self.cannot(("interrupt", 0))
        self.make_realm((("jump", 0),))
        for call in (("delegate", 5), ("page_out", 1, 0), ("thaw", 1)):
            self.world.act(("call", 0, call))
            self.cannot(("interrupt", 0))
            while self.world.act(("step", 0)) is None:
                self.cannot(("interrupt", 1))
        self.world.act(("call", 0, ("enter", CPU, 0)))
        for _ in range(12):
            self.acts(("step", 0), None)
        many = len(self.world.memory().log())
        self.acts(("interrupt", 0), None)
        self.assertEqual(len(self.world.memory().log()), many)
        for _ in range(4):
            self.acts(("step", 0), None)
        self.acts(("step", 0), ("answer", ("interrupted",)))
        self.cannot(("interrupt", 0))


class KnowingTest(WorldCase):
    """What the host can make hangs on what it has read and on what was answered to it."""

    def asks_behind(self, atom, learn):
        """The host can make nothing with the atom ahead of learning it, and all behind it."""
        acts = (
            ("host", 1, ("write", 10, 0, atom)), ("host", 1, ("write", 10, 0, ("x", (atom,)))), ("call", 1, ("enter", CPU, atom)),
            ("call", 1, ("cpu_create", 1, 4, PROGRAM, (0, atom, 0, 0))), ("call", 1, ("page_in", 1, 4, 0, (atom,))),
            ("call", 1, ("come", 4, 5, atom)), ("call", 1, ("place", 1, 4, 0, atom)), ("call", 1, ("place_cpu", 1, 4, atom)),
        )
        for act in acts:
            self.cannot(act)
        self.assertIs(self.world.knows(atom), False)
        learn()
        self.assertIs(self.world.knows(atom), True)
        self.assertIs(self.world.knows(("x", atom)), True)
        for act in acts:
            copy = self.world.copy()
            self.assertNotEqual(copy.act(act), CANNOT, act)

    def test_at_first_it_has_no_atoms(self):
        for word in (None, 0, -2 ** 31, "x", (), ("x", (1,)), nested(10)):
            self.assertIs(self.world.knows(word), True)
        for word in NO_WORDS + (challenge(0), (challenge(0),), nested(11), ranked(37)):
            self.assertIs(self.world.knows(word), False)

    def test_by_reading(self):
        self.make_realm()
        self.world.memory().access(("monitor", 0), ("write", 20, 2, ("x", challenge(3))))

        def learn():
            self.acts(("host", 0, ("read", 20, 2)), ("word", ("x", challenge(3))))
        self.asks_behind(challenge(3), learn)

    def test_by_what_a_realm_tells(self):
        self.make_realm((("token", 0, 0), ("tell", 0, 1), ("end",)))
        measure = self.world.memory().words(1)[2]
        made = Atom("token", ("here", measure, "first"))
        self.asks_behind(made, lambda: self.enters(0, ("told", made)))

    def test_by_what_a_call_answers(self):
        self.make_realm()
        self.does(("freeze", 1))
        words = self.world.memory().words(CPU)
        made = Atom("seal", ("here", 1, 8 + CPU, words))
        self.asks_behind(made, lambda: self.assertEqual(self.does(("seal_cpu", 1, CPU)), ("ok", made)))
        # A seal that hides something else is another one.
        for other in (
            Atom("seal", ("here", 1, 8 + CPU, None)), Atom("seal", ("here", 1, 8 + CPU, (0, 0, 0, 0))), Atom("page", made.term),
        ):
            self.cannot(("host", 0, ("write", 10, 0, other)))

    def test_what_an_atom_stands_for_is_not_had(self):
        secret = challenge(4)
        self.world.known().take(seal(words=(secret, 0, 0, 0)))
        self.world.known().take(token((secret, challenge(5))))
        for word in (secret, challenge(5), token(secret)):
            self.cannot(("host", 0, ("write", 10, 0, word)))
            self.assertIs(self.world.knows(word), False)

    def test_a_ticket_is_no_word_of_a_host_if_its_rank_is_too_great(self):
        great = ticket(measure=(ranked(36),), target="here")
        self.assertEqual(great.rank, 37)
        self.world.known().take(great)
        self.does(("delegate", 1)), self.does(("delegate", 2))
        self.assertIs(self.world.knows(great), False)
        self.cannot(("host", 0, ("write", 10, 0, great)))
        self.cannot(("call", 0, ("enter", CPU, great)))
        self.does(("come", 1, 2, great))

    def test_refusals_tell_nothing(self):
        self.world.memory().access(("monitor", 0), ("write", 20, 2, challenge(3)))
        self.does(("delegate", 20))
        self.acts(("host", 0, ("read", 20, 2)), ("refused",))
        self.assertEqual(self.world.known().atoms(), [])

    def test_the_order_of_what_it_has(self):
        for i, word in enumerate((challenge(2), (challenge(1), challenge(2)), 0, (challenge(0), (challenge(5),)))):
            self.world.memory().access(("monitor", 0), ("write", 20, i, word))
        for i in (1, 0, 3):
            self.world.act(("host", 0, ("read", 20, i)))
        self.assertEqual(self.world.known().atoms(), [challenge(1), challenge(2), challenge(0), challenge(5)])


class CopyTest(WorldCase):
    def start(self):
        self.make_realm()
        self.world.memory().access(("monitor", 0), ("write", 20, 0, challenge(3)))
        self.world.act(("host", 0, ("read", 20, 0)))
        self.world.act(("call", 0, ("enter", CPU, "answer")))
        self.world.act(("call", 1, ("delegate", 5)))
        self.world.act(("call", 2, ("freeze", 1)))
        for p in (0, 0, 0, 1, 2, 2):
            self.world.act(("step", p))

    def told(self, world):
        calls = [world.call(p) for p in range(3)]
        return (
            world.monitor, contents(world.memory()), world.view(), world.known().atoms(),
            [call and call.state() for call in calls],
        )

    def test_it_is_the_same(self):
        self.start()
        before = self.told(self.world)
        copy = self.world.copy()
        self.assertIs(type(copy), World)
        self.assertEqual(self.told(copy), before)
        self.assertEqual(self.told(self.world), before)

    def test_each_goes_on_by_itself(self):
        self.start()
        before = self.told(self.world)
        for each in (0, 1):
            pair = [self.world.copy(), None]
            pair[1] = pair[0].copy()
            for _ in range(60):
                for p in range(3):
                    pair[each].act(("step", p))
                pair[each].act(("host", 0, ("write", 10, 1, challenge(3))))
                pair[each].act(("host", 0, ("write", 10, 1, 5)))
            pair[each].known().take(challenge(9))
            self.assertEqual(self.told(pair[1 - each]), before)
            self.assertNotEqual(self.told(pair[each]), before)
        self.assertEqual(self.told(self.world), before)

    def test_both_go_on_alike(self):
        self.start()
        copy = self.world.copy()
        for act in [("step", p) for p in (0, 1, 2, 2, 0, 0, 2, 1)] * 8 + [
            ("host", 1, ("read", 20, 0)), ("host", 1, ("write", 20, 0, challenge(3))),
        ]:
            self.assertEqual(copy.act(act), self.world.act(act))
        self.assertEqual(self.told(copy), self.told(self.world))

    def test_with_another_knowledge(self):
        self.start()
        before = self.told(self.world)
        known = Knowledge()
        known.take(challenge(8))
        copy = self.world.copy_with(known)
        self.assertIs(copy.known(), known)
        self.assertEqual(self.told(copy)[:3], before[:3])
        self.assertIs(copy.knows(challenge(3)), False)
        self.assertIs(copy.knows(challenge(8)), True)
        self.assertEqual(self.told(self.world), before)
        copy.act(("host", 1, ("read", 20, 0)))
        self.assertEqual(copy.act(("step", 0)), None)
        while self.world.call(0) is not None:
            self.world.act(("step", 0))
        self.assertIsNotNone(copy.call(0))

    def test_lists_are_the_callers(self):
        self.start()
        before = self.told(self.world)
        self.world.view().append(1)
        self.world.view().clear()
        self.world.memory().log().clear()
        self.world.known().atoms().clear()
        self.assertEqual(self.told(self.world), before)


class NetTest(unittest.TestCase):
    def test_wrong_names(self):
        names = tuple("m%d" % number for number in range(9))
        for value in NO_WORDS + (
            None, 0, "here", (), ["here"], ("",), ("here", ""), ("here", "here"), ("here", "there", "here"), names,
            ("here", None),
            ("a" * 25,), ("here", 1), ({}, "here"), (["here"],), {"here": 1}, {"here"}, (("here",),), challenge(0),
            (TrickyText("here"),),
        ):
            with self.assertRaises(NotValid):
                Net(value)
        for value in (names[:1], names[:8], ("here", "Here", "here "), ("a" * 24,)):
            net = Net(value)
            self.assertEqual([net.world(name).monitor for name in value], list(value))

    def test_names_that_are_none(self):
        net = Net(("here", "there"))
        for name in NO_WORDS + (None, 0, "", "far", "her", ("here",), ["here"], {}, challenge(0), TrickyText("here")):
            with self.assertRaises(NotValid):
                net.world(name)
            with self.assertRaises(NotValid):
                net.act(name, ("drop", 0))
        self.assertEqual(net.view(), [])

    def test_values_that_are_no_acts(self):
        net = Net(("here", "there"))
        for value in NO_ACTS:
            with self.assertRaises(NotValid):
                net.act("here", value)
        self.assertEqual(net.view(), [])

    def test_worlds_are_their_own(self):
        net = Net(("here", "there"))
        self.assertIs(type(net.world("here")), World)
        self.assertIs(net.world("here"), net.world("here"))
        self.assertEqual(net.act("here", ("host", 0, ("write", 3, 0, 7))), ("done",))
        self.assertEqual(net.act("there", ("host", 0, ("read", 3, 0))), ("word", 0))
        self.assertEqual(net.act("here", ("host", 0, ("read", 3, 0))), ("word", 7))
        self.assertEqual(net.act("there", ("step", 1)), CANNOT)
        self.assertEqual(net.view(), [
            ("here", ("host", 0, ("write", 3, 0, 7)), ("done",)), ("there", ("host", 0, ("read", 3, 0)), ("word", 0)),
            ("here", ("host", 0, ("read", 3, 0)), ("word", 7)), ("there", ("step", 1), CANNOT),
        ])
        self.assertEqual(net.world("there").view(), [(act, result) for name, act, result in net.view() if name == "there"])
        self.assertEqual(net.world("here").view(), [(act, result) for name, act, result in net.view() if name == "here"])

    def test_what_is_learnt_in_one_is_known_in_all(self):
        net = Net(("here", "there", "far"))
        known = net.world("here").known()
        for name in ("there", "far"):
            self.assertIs(net.world(name).known(), known)
        net.world("far").memory().access(("monitor", 0), ("write", 9, 0, challenge(1)))
        write = ("host", 0, ("write", 1, 0, (challenge(1), 2)))
        self.assertEqual(net.act("here", write), CANNOT)
        self.assertEqual(net.act("far", ("host", 2, ("read", 9, 0))), ("word", challenge(1)))
        for name in ("here", "there", "far"):
            self.assertIs(net.world(name).knows(challenge(1)), True)
            self.assertEqual(net.act(name, write), ("done",))

    def test_acts_that_are_done_in_a_world_of_it(self):
        net = Net(("here", "there"))
        net.world("there").act(("drop", 1))
        net.act("here", ("drop", 0))
        net.world("here").act(("drop", 2))
        self.assertEqual([(name, act[1]) for name, act, _ in net.view()], [("there", 1), ("here", 0), ("here", 2)])

    def test_copies(self):
        net = Net(("here", "there"))
        net.world("here").memory().access(("monitor", 0), ("write", 9, 0, challenge(1)))
        net.world("there").known().take(challenge(2))
        net.act("there", ("call", 1, ("delegate", 4)))
        before, copy = net.view(), net.copy()
        self.assertEqual(copy.view(), before)
        self.assertEqual(copy.world("here").known().atoms(), [challenge(2)])
        self.assertEqual(copy.act("here", ("host", 0, ("read", 9, 0))), ("word", challenge(1)))
        self.assertIs(copy.world("there").knows(challenge(1)), True)
        self.assertIs(copy.world("there").known(), copy.world("here").known())
        self.assertIs(net.world("there").knows(challenge(1)), False)
        self.assertEqual(net.view(), before)
        for _ in range(2):
            net.act("there", ("step", 1))
        self.assertEqual(copy.world("there").memory().status(4), ("host", None, None))
        self.assertIsNotNone(copy.world("there").call(1))
        self.assertEqual(len(copy.view()), 2)
        self.assertEqual(copy.world("here").view(), [(("host", 0, ("read", 9, 0)), ("word", challenge(1)))])
        again = copy.copy()
        again.act("there", ("step", 1))
        self.assertEqual((len(again.view()), len(copy.view())), (3, 2))
        again.view().clear()
        self.assertEqual(len(again.view()), 3)
        # A copy of one of its worlds is a world by itself.
        alone = copy.world("here").copy()
        alone.act(("drop", 0))
        self.assertEqual((len(alone.view()), len(copy.view())), (2, 2))
