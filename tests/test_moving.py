"""Points [36] to [41]: realms that move over three monitors, whatever the host does with the calls."""

import random
import unittest

from hermitcell.audit import audit, realms
from hermitcell.calls import Call
from hermitcell.memory import GRANULES
from hermitcell.moveforms import is_state
from hermitcell.moves import Move
from hermitcell.views import Watch
from hermitcell.world import Net
from tests.helpers import CPU, D, DATA, ROOT, leave, put, realm, seal
from tests.helpers import finish as finish_call
from tests.hosts import PROGRAMS, REGISTERS, Drawn, finish, realm_acts

NAMES = ("here", "there", "far")
REALM = 0
# Where the parts of the realm are in each world.
ROOT_AT, LOW_AT, HIGH_AT, PAGES_AT, CPUS_AT = 1, 2, 3, (4, 5, 9), (6, 7)
SHARED = 23
PROGRAM = (("load", 1, 0, 0), ("add", 1, 1, 2), ("store", 0, 0, 1), ("tell", 1, 3), ("jump", 0))


def is_alive(state):
    """True if a realm lives, whose word 0 is this; a realm that is being destroyed has no state any more."""
    return is_state(state) and state != "dying" and not (type(state) is tuple and state[0] == "gone")


def contents_of(memory, d):
    """The pages of the lower half and the virtual processors of a realm, as a move carries them."""
    pages = []
    for k in range(2):
        word = memory.words(memory.words(d)[1])[k]
        for entry in memory.words(word[1]) if word and word[0] == "table" else (None,) * 4:
            is_there = type(entry) is tuple and entry[0] == "data"
            pages.append(memory.words(entry[1]) if is_there else None if entry is None else "gone")
    cpus = [memory.words(g) for g in range(GRANULES) if memory.status(g)[1] == d and memory.status(g)[0] in ("cpu", "running")]
    return (tuple(pages), cpus)


class NetCase(unittest.TestCase):
    def start(self):
        """A net with a realm in the first world, and free granules in the others."""
        self.net = Net(NAMES)
        for i, word in enumerate((5, "x", (), None)):
            self.net.act("here", ("host", 0, ("write", SHARED, i, word)))
        for call in realm_acts(range(8), PROGRAM, (0, 0, 1, None), host=SHARED):
            self.does("here", call)
        for name in NAMES[1:]:
            for g in range(8):
                self.does(name, ("delegate", g))
        for name in NAMES:
            self.does(name, ("delegate", 9)), self.does(name, ("delegate", 10))

    def memory(self, name):
        return self.net.world(name).memory()

    def state(self, name):
        return self.memory(name).words(REALM)[0]

    def make(self, name, call, p=0):
        """The answer of a call; behind each of its acts at most one realm of the line lives."""
        def act(what):
            result = self.net.act(name, what)
            self.asks()
            return result
        return finish(act, call, p)

    def does(self, name, call, p=0):
        answer = self.make(name, call, p)
        self.assertEqual(answer[0], "ok", (name, call, answer))
        return answer[1] if len(answer) > 1 else None

    def living(self):
        """The worlds in which the realm lives."""
        return [
            name for name in NAMES
            if self.memory(name).status(REALM)[0] == "desc" and is_alive(self.state(name))
        ]

    def asks(self):
        self.assertLessEqual(len(self.living()), 1)


class LineTest(NetCase):
    def leaves(self, source, target, again=1):
        """The ticket and the seals with which the realm leaves a world."""
        for _ in range(again):
            self.does(source, ("freeze", REALM))
        kept = contents_of(self.memory(source), REALM)
        seals = [self.does(source, ("seal", REALM, page)) for page, words in enumerate(kept[0]) if type(words) is tuple]
        self.does(source, ("give", REALM, target))
        self.assertEqual(self.living(), [])
        seals += [self.does(source, ("seal_cpu", REALM, c)) for c in CPUS_AT]
        return (self.does(source, ("ticket", REALM)), seals, kept)

    def comes(self, target, ticket, seals, doubled=False):
        """The calls with which the realm comes, ahead of "begin"."""
        many = 2 if doubled else 1
        self.twice(target, ("come", REALM, ROOT_AT, ticket), many)
        self.twice(target, ("table_create", REALM, LOW_AT, 0), many)
        free = [g for g in PAGES_AT]
        for word in seals:
            place = word.term[2]
            if place < 8:
                self.twice(target, ("place", REALM, free.pop(0), place, word), many)
            else:
                self.twice(target, ("place_cpu", REALM, CPUS_AT[place - 8 - CPUS_AT[0]], word), many)
        for page, told in enumerate(ticket.term[4]):
            if told == "destroyed":
                self.twice(target, ("strike", REALM, page), many)

    def twice(self, name, call, many):
        self.does(name, call)
        for _ in range(many - 1):
            self.assertEqual(self.make(name, call), ("no",), call)

    def runs(self, name, told):
        """The realm tells this on the monitor, when it is entered."""
        self.assertEqual(self.make(name, ("enter", CPUS_AT[0], "answer")), ("told", told))

    def moves(self, source, target, doubled=False):
        ticket, seals, kept = self.leaves(source, target)
        measure = self.memory(source).words(REALM)[2]
        self.comes(target, ticket, seals, doubled)
        self.assertEqual(self.living(), [target])
        self.twice(target, ("begin", REALM), 2 if doubled else 1)
        memory = self.memory(target)
        self.assertEqual(memory.words(REALM)[0], "active")
        self.assertEqual(memory.words(REALM)[2], measure)
        self.assertEqual(contents_of(memory, REALM), kept)
        # What is late is refused.
        for call in (("thaw", REALM), ("freeze", REALM), ("give", REALM, "nowhere"), ("activate", REALM)):
            self.assertEqual(self.make(source, call), ("no",), call)

    def test_over_three_monitors(self):
        for doubled in (False, True):
            self.start()
            self.runs("here", 6)
            self.does("here", ("data_destroy", REALM, 1))
            self.moves("here", "there", doubled)
            self.assertEqual(contents_of(self.memory("there"), REALM)[0][:3], ((6, "x", (), None), "gone", None))
            self.runs("there", 7)
            self.moves("there", "far", doubled)
            self.runs("far", 8)
            self.assertEqual(self.living(), ["far"])
            for name in NAMES:
                self.assertEqual(audit(self.memory(name)), "")
            # The way back is open as soon as its granules are free; the number of the move is another one.
            for call in (
                ("kill", REALM), ("data_destroy", REALM, 0), ("cpu_destroy", REALM, 6), ("cpu_destroy", REALM, 7),
                ("table_destroy", REALM, 0), ("table_destroy", REALM, 2), ("destroy", REALM),
            ):
                self.does("here", call)
            self.moves("far", "here", doubled)
            self.runs("here", 9)

    def test_a_page_that_is_out_is_lost(self):
        self.start()
        atom = self.does("here", ("page_out", REALM, 1))
        self.moves("here", "there")
        self.assertEqual(contents_of(self.memory("there"), REALM)[0], ((5, "x", (), None), "gone") + (None,) * 6)
        self.assertEqual(self.make("there", ("page_in", REALM, 10, 1, atom)), ("no",))
        self.assertEqual(self.make("here", ("page_in", REALM, 10, 1, atom)), ("no",))

    def test_shared_pages_do_not_move(self):
        self.start()
        self.moves("here", "there")
        memory = self.memory("there")
        self.assertEqual(memory.words(ROOT_AT), (("table", LOW_AT), None, None, None))
        self.does("there", ("table_create", REALM, HIGH_AT, 2))
        self.assertEqual(memory.words(HIGH_AT), (None,) * 4)

    def test_a_register_that_waits_moves(self):
        self.start()
        self.runs("here", 6)
        self.assertEqual(self.memory("here").words(6)[2], 3)
        self.moves("here", "there")
        self.assertEqual(self.make("there", ("enter", 6, "here I am")), ("told", 7))
        self.assertEqual(self.memory("there").words(6)[1], (0, 7, 1, "here I am"))

    def test_thawed_and_frozen_again(self):
        self.start()
        self.does("here", ("freeze", REALM))
        late = [self.does("here", ("seal", REALM, 0)), self.does("here", ("seal_cpu", REALM, 6))]
        self.does("here", ("thaw", REALM))
        self.runs("here", 6)
        ticket, seals, _ = self.leaves("here", "there")
        self.assertEqual((late[0].term[1], ticket.term[1]), (1, 2))
        self.does("there", ("come", REALM, ROOT_AT, ticket))
        self.does("there", ("table_create", REALM, LOW_AT, 0))
        for call in (("place", REALM, 4, 0, late[0]), ("place_cpu", REALM, 6, late[1])):
            self.assertEqual(self.make("there", call), ("no",))
        # A seal of the right move is for its own page alone, and for the realm that comes alone.
        self.assertEqual(self.make("there", ("place", REALM, 4, 1, seals[0])), ("no",))
        self.assertEqual(self.make("there", ("place_cpu", REALM, 6, seals[0])), ("no",))
        self.assertEqual(self.make("there", ("begin", REALM)), ("no",))

    def test_a_ticket_is_for_one_monitor(self):
        self.start()
        ticket, _, _ = self.leaves("here", "there")
        for name in ("far", "here"):
            self.assertEqual(self.make(name, ("come", 9, 10, ticket)), ("no",))
        self.assertEqual(self.living(), [])
        # Whatever is done behind the death, all tickets are equal.
        for call in (("give", REALM, "far"), ("thaw", REALM), ("freeze", REALM)):
            self.assertEqual(self.make("here", call), ("no",))
        self.assertEqual(self.does("here", ("ticket", REALM)), ticket)
        self.does("here", ("unshare", REALM, 8)), self.does("here", ("table_destroy", REALM, 2))
        self.assertEqual(self.does("here", ("ticket", REALM)), ticket)

    def test_no_ticket_ahead_of_the_death(self):
        self.start()
        self.assertEqual(self.make("here", ("ticket", REALM)), ("no",))
        self.does("here", ("freeze", REALM))
        self.assertEqual(self.make("here", ("ticket", REALM)), ("no",))
        # The death is in one access: up to it the realm can be thawed.
        self.net.act("here", ("call", 0, ("give", REALM, "there")))
        for _ in range(2):
            self.net.act("here", ("step", 0))
            self.assertEqual(self.state("here"), ("frozen", 1))
        self.net.act("here", ("step", 0))
        self.assertEqual(self.state("here"), ("gone", 1, "there"))
        self.assertEqual(self.make("here", ("thaw", REALM), 1), ("busy",))
        self.net.act("here", ("step", 0))
        self.assertEqual(self.make("here", ("thaw", REALM), 1), ("no",))

    def test_calls_that_are_left_unfinished(self):
        """A monitor that stops anywhere loses the realm, and never doubles it."""
        for many in range(14):
            self.start()
            ticket, _, _ = self.leaves("here", "there")
            self.net.act("there", ("call", 0, ("come", REALM, ROOT_AT, ticket)))
            for _ in range(many):
                self.net.act("there", ("step", 0))
                self.asks()
            # Another processor tries with other granules: the ticket is good once, from the access "once" on.
            answer = self.make("there", ("come", 9, 10, ticket), 1)
            self.assertEqual(answer, ("ok",) if many < 3 else ("no",))
            memory = self.memory("there")
            alive = [d for d in realms(memory) if is_alive(memory.words(d)[0])]
            self.assertEqual(len(alive), 1 if many < 3 or many == 13 else 0)

    def moves_on(self, left, many):
        """Tries a whole move; the call with this number is left unfinished, and made again by another processor.

        Returns whether it came to its end all the same.
        """
        got, is_over = [], False
        for number, (name, make) in enumerate((
            ("here", lambda: ("freeze", REALM)), ("here", lambda: ("seal", REALM, 0)), ("here", lambda: ("seal", REALM, 1)),
            ("here", lambda: ("seal_cpu", REALM, 6)), ("here", lambda: ("seal_cpu", REALM, 7)),
            ("here", lambda: ("give", REALM, "there")), ("here", lambda: ("ticket", REALM)),
            ("there", lambda: ("come", REALM, ROOT_AT, got[6])), ("there", lambda: ("table_create", REALM, LOW_AT, 0)),
            ("there", lambda: ("place", REALM, 4, 0, got[1])), ("there", lambda: ("place", REALM, 5, 1, got[2])),
            ("there", lambda: ("place_cpu", REALM, 6, got[3])), ("there", lambda: ("place_cpu", REALM, 7, got[4])),
            ("there", lambda: ("begin", REALM)),
        )):
            call = make()
            if number == left:
                self.net.act(name, ("call", 0, call))
                for _ in range(many):
                    is_over = self.net.act(name, ("step", 0)) is not None
                    self.asks()
            answer = self.make(name, call, 1)
            got.append(answer[1] if len(answer) > 1 else None)
        return is_over

    def test_each_call_is_left_unfinished(self):
        """Wherever a processor stops for ever, what the others do then doubles nothing."""
        ended = []
        for left in range(14):
            many, is_over = 0, False
            while not is_over:
                self.start()
                is_over = self.moves_on(left, many)
                ended.append(self.living())
                # What comes late does not bring it back where it is gone.
                self.make("here", ("thaw", REALM), 2), self.make("here", ("freeze", REALM), 2)
                many += 1
        for living in ([], ["here"], ["there"]):
            self.assertIn(living, ended)

    def test_two_that_come_at_once(self):
        for seed in range(60):
            draw = random.Random(seed)
            self.start()
            ticket, _, _ = self.leaves("here", "there")
            for p, (d, t) in enumerate(((REALM, ROOT_AT), (9, 10), (4, 5))):
                self.net.act("there", ("call", p, ("come", d, t, ticket)))
            results = []
            while any(self.net.world("there").call(p) is not None for p in range(3)):
                results.append(self.net.act("there", ("step", draw.randrange(3))))
            answers = [result[1] for result in results if result not in (None, ("cannot",))]
            self.assertEqual(sorted(answers), [("no",), ("no",), ("ok",)])
            self.assertEqual(len(realms(self.memory("there"))), 1)


class RestTest(NetCase):
    """Point [39]."""

    def test_a_processor_that_entered_ahead_of_it(self):
        # The processor has read the state ahead of the freeze, and is seen.
        for steps in range(4, 12):
            self.start()
            self.net.act("here", ("call", 1, ("enter", 6, None)))
            for _ in range(steps):
                self.net.act("here", ("step", 1))
            self.assertEqual(self.make("here", ("freeze", REALM)), ("busy",))
            self.assertEqual(self.state("here"), ("freezing", 1))
            for call in (("seal", REALM, 0), ("seal_cpu", REALM, 6), ("give", REALM, "there")):
                self.assertEqual(self.make("here", call), ("no",))
            self.net.act("here", ("interrupt", 1))
            while self.net.act("here", ("step", 1)) is None:
                self.asks()
            self.does("here", ("freeze", REALM))
            self.assertEqual(self.state("here"), ("frozen", 1))

    def test_a_processor_that_enters_behind_it(self):
        for state in ("freezing", "frozen", "gone"):
            self.start()
            if state == "freezing":
                self.net.act("here", ("call", 1, ("enter", 7, None)))
                for _ in range(9):
                    self.net.act("here", ("step", 1))
                self.assertEqual(self.make("here", ("freeze", REALM)), ("busy",))
            else:
                self.does("here", ("freeze", REALM))
            if state == "gone":
                self.does("here", ("give", REALM, "there"))
            before = self.memory("here").words(6)
            self.assertEqual(self.make("here", ("enter", 6, None), 2), ("no",))
            self.assertEqual(self.memory("here").words(6), before)

    def test_entering_in_the_midst_of_a_freeze(self):
        # Wherever the freeze stands, nobody runs once it is done.
        for seed in range(200):
            draw = random.Random(seed)
            self.start()
            self.net.act("here", ("call", 0, ("freeze", REALM)))
            self.net.act("here", ("call", 1, ("enter", 6, None)))
            self.net.act("here", ("call", 2, ("enter", 7, None)))
            world = self.net.world("here")
            while world.call(0) is not None or self.state("here") != ("frozen", 1):
                if world.call(0) is None:
                    self.net.act("here", ("call", 0, ("freeze", REALM)))
                p = draw.randrange(3)
                self.net.act("here", ("interrupt" if draw.random() < 0.1 else "step", p))
            kept = contents_of(self.memory("here"), REALM)
            for p in (1, 2):
                while world.call(p) is not None:
                    self.net.act("here", ("step", p))
            self.assertEqual(contents_of(self.memory("here"), REALM), kept)
            self.assertEqual([self.memory("here").presence(p) for p in range(3)], [None] * 3)

    def test_what_is_sealed_does_not_change(self):
        memory = realm(("gone", 3, "there"))
        first = finish_call(Move(memory, 0, ("ticket", D), "m"))
        put(DATA, 0, 10)(memory)
        for call in (
            ("data_destroy", D, 1), ("data_fresh", D, 7, 0), ("share", D, 9, 20), ("cpu_destroy", D, CPU), ("activate", D),
            ("table_create", D, 7, 1), ("data_create", D, 7, 21, 0), ("cpu_create", D, 7, (("end",),), (0,) * 4),
        ):
            self.assertEqual(finish_call(Call(memory, 0, call)), ("no",), call)
        self.assertEqual(finish_call(Move(memory, 0, ("ticket", D), "m")), first)
        self.assertEqual(finish_call(Move(memory, 0, ("seal", D, 1), "m")), ("ok", seal(3, 1, memory.words(DATA))))
        leave(memory, ROOT, "table", D)


class DrawnTest(unittest.TestCase):
    def test_at_most_one_lives(self):
        """Drawn hosts, who know each line: one begins with "create", and goes on with "come"."""
        begun = come = 0
        for seed in range(12):
            draw = random.Random(seed)
            net = Net(NAMES)
            watches = {name: Watch(net.world(name)) for name in NAMES}
            for call in realm_acts(range(9), draw.choice(PROGRAMS), draw.choice(REGISTERS)):
                finish(watches["here"].act, call)
            host = Drawn(draw, NAMES, moves=0.5, ends=0.03)
            lines, tickets, frozen, calls = {("here", 0): 0}, {}, {}, {}
            for number in range(2500):
                name = draw.choice(NAMES)
                watch = watches[name]
                act = host.act(watch.world())
                result = watch.act(act)
                if act[0] == "call" and result is None:
                    calls[name, act[1]] = act[2]
                if result is not None and result[0] == "answer" and result[1][0] == "ok":
                    call = calls[name, act[1]]
                    self.follow(name, watch, call, result[1], (lines, tickets, frozen))
                    begun += call[0] == "begin"
                    come += call[0] == "come"
                self.one_lives(watches, lines)
        self.assertGreater(come, 10)
        self.assertGreater(begun, 2)

    def follow(self, name, watch, call, answer, known):
        """Notes to what line a realm belongs, and asks what a realm that begins has."""
        lines, tickets, frozen = known
        memory, d = watch.world().memory(), call[1]
        if call[0] == "create":
            lines[name, watch.many() - 1] = len(lines) + 1000
        elif call[0] == "freeze":
            state = memory.words(d)[0]
            frozen[name, state[1]] = (memory.words(d)[2], contents_of(memory, d))
        elif call[0] == "ticket":
            move = answer[1].term[:2]
            self.assertEqual(tickets.setdefault(move, (answer[1], lines[name, watch.realm(d)]))[0], answer[1])
        elif call[0] == "come":
            lines[name, watch.many() - 1] = tickets[call[3].term[:2]][1]
        elif call[0] == "begin":
            ticket = [note[1][2][3] for note in self.comings(watch, d)][-1]
            measure, (pages, cpus) = frozen[ticket.term[:2]]
            self.assertEqual(watch.measure(watch.realm(d)), measure)
            begins, parts = watch.start(watch.realm(d))
            self.assertEqual(begins, pages)
            self.assertEqual(
                sorted([repr((place, waiting)) for _, place, _, waiting in parts]),
                sorted([repr((place, waiting)) for place, _, waiting, _ in cpus]),
            )
            for program, place, registers, waiting in parts:
                self.assertIn((place, registers, waiting, program), cpus)

    def comings(self, watch, d):
        """The acts that began a call with which a realm came to this granule."""
        return [
            (number, act) for number, (act, result) in enumerate(watch.world().view())
            if act[0] == "call" and result is None and act[2][0] == "come" and act[2][1] == d
        ]

    def one_lives(self, watches, lines):
        alive = []
        for name, watch in watches.items():
            memory = watch.world().memory()
            for d in realms(memory):
                number = watch.realm(d)
                if number is not None and is_alive(memory.words(d)[0]):
                    alive.append(lines[name, number])
        self.assertEqual(len(alive), len(set(alive)))
