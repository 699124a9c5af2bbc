"""Points [28] to [30], and [5] for tokens."""

import unittest

from hermitcell import tokens
from hermitcell.entering import Enter
from hermitcell.errors import NotValid
from hermitcell.measures import first_cpus, first_pages
from hermitcell.memory import Memory
from hermitcell.tokens import Verifier, token_of, token_parts
from hermitcell.words import Atom, Knowledge
from tests.helpers import (
    HOST, MEASURE, NO_WORDS, TrickyText, challenge, do, finish, nested, ranked, seal, ticket, token,
)


class TokenTest(unittest.TestCase):
    def test_all_is_defined_in_its_file(self):
        for each in (token_of, token_parts, Verifier):
            self.assertEqual(each.__module__, tokens.__name__)

    def test_tokens(self):
        for monitor in ("", "m", "a" * 24, "~ "):
            for measure in ((), MEASURE, (1, "x"), nested(40)):
                for word in (None, 0, -2 ** 31, "x", (), challenge(3), ranked(35), seal(), token(1), nested(40)):
                    made = token_of(monitor, measure, word)
                    self.assertIs(type(made), Atom)
                    self.assertEqual((made.kind, made.term), ("token", (monitor, measure, word)))
                    self.assertEqual(token_parts(made), (monitor, measure, word))

    def test_wrong_monitors(self):
        for monitor in NO_WORDS + (None, 0, 1, ("m",), challenge(0), "a" * 25, "\n", TrickyText("m")):
            with self.assertRaises(NotValid):
                token_of(monitor, (), 0)

    def test_wrong_measures(self):
        for measure in NO_WORDS + (None, 0, "", "x", challenge(0), nested(41), ((1, True),), [()]):
            with self.assertRaises(NotValid):
                token_of("m", measure, 0)

    def test_wrong_challenges(self):
        for word in NO_WORDS:
            with self.assertRaises(NotValid):
                token_of("m", (), word)

    def test_ranks(self):
        for rank in (1, 2, 34, 35):
            self.assertEqual(token_of("m", (), ranked(rank)).rank, rank + 1)
            self.assertEqual(token_of("m", ((1, ranked(rank)),), 0).rank, rank + 1)
            self.assertEqual(token_of("m", (ranked(rank),), ranked(1)).rank, rank + 1)
        for rank in (36, 37, 40):
            for measure, word in (((), ranked(rank)), ((ranked(rank),), 0), ((), (1, (ranked(rank),)))):
                with self.assertRaises(NotValid):
                    token_of("m", measure, word)

    def test_tokens_in_tokens_until_there_can_be_none_more(self):
        word, many = challenge(0), 0
        while word.rank < 36:
            word = token_of("m", MEASURE, word)
            many += 1
        self.assertEqual(many, 35)
        with self.assertRaises(NotValid):
            token_of("m", MEASURE, word)
        # What a seal hides has no part in its rank.
        self.assertEqual(token_of("m", MEASURE, seal(words=(word, 0, 0, 0))).rank, 2)

    def test_everything_else_has_no_parts(self):
        for word in (
            None, 0, "token", (), ("m", (), 0), ("token", ("m", (), 0)), (token(1),), challenge(1), seal(),
            seal(kind="page"), ticket(),
        ) + NO_WORDS:
            self.assertIsNone(token_parts(word))


class VerifierTest(unittest.TestCase):
    def setUp(self):
        self.verifier = Verifier("v", ("m", "n"), (MEASURE, ()))

    def stays(self, word):
        """Asks that a word is not taken, and changes nothing."""
        before = self.verifier.open_ones()
        self.assertIs(self.verifier.take(word), False)
        self.assertEqual(self.verifier.open_ones(), before)

    def test_names(self):
        for name in ("", "v", "a" * 24):
            given = Verifier(name, (), ()).challenge()
            self.assertEqual((given.kind, given.term), ("challenge", (name, 0)))
        for name in NO_WORDS + (None, 0, (), ("v",), challenge(0), "a" * 25, TrickyText("v")):
            with self.assertRaises(NotValid):
                Verifier(name, ("m",), ((),))

    def test_challenges_are_numbered(self):
        given = [self.verifier.challenge() for _ in range(5)]
        self.assertEqual([each.term for each in given], [("v", n) for n in range(5)])
        self.assertEqual({each.kind for each in given}, {"challenge"})
        self.assertEqual(self.verifier.open_ones(), given)
        for each in given:
            self.assertIs(self.verifier.is_open(each), True)
            self.assertIs(self.verifier.is_open(challenge(each.term[1])), True)
        # Numbers are not given again.
        self.assertTrue(self.verifier.take(token(given[1])))
        self.assertEqual(self.verifier.challenge(), challenge(5))
        self.assertEqual(self.verifier.open_ones(), [challenge(n) for n in (0, 2, 3, 4, 5)])

    def test_what_is_not_open(self):
        self.assertEqual(self.verifier.open_ones(), [])
        self.assertIs(self.verifier.is_open(challenge(0)), False)
        self.verifier.challenge()
        for word in (
            challenge(1), challenge(0, "w"), ("v", 0), ("challenge", ("v", 0)), (challenge(0),), token(challenge(0)), None, 0,
        ) + NO_WORDS:
            self.assertIs(self.verifier.is_open(word), False)

    def test_the_list_is_the_callers(self):
        self.verifier.challenge()
        told = self.verifier.open_ones()
        self.verifier.open_ones().clear()
        self.assertEqual(self.verifier.open_ones(), [challenge(0)])
        self.verifier.challenge()
        self.verifier.take(token(challenge(0)))
        self.assertEqual(told, [challenge(0)])

    def test_a_token_is_taken_once(self):
        for monitor in ("m", "n"):
            for measure in (MEASURE, ()):
                word = self.verifier.challenge()
                made = token_of(monitor, measure, word)
                self.assertIs(self.verifier.take(made), True)
                self.assertIs(self.verifier.is_open(word), False)
                self.assertEqual(self.verifier.open_ones(), [])
                self.stays(made)
                self.stays(token_of("n", (), word))

    def test_order_of_taking(self):
        given = [self.verifier.challenge() for _ in range(3)]
        for n in (2, 0, 1):
            self.assertIs(self.verifier.take(token(given[n])), True)
            self.assertNotIn(given[n], self.verifier.open_ones())
        self.assertEqual(self.verifier.open_ones(), [])

    def test_what_is_not_taken(self):
        self.stays(token(challenge(0)))
        word = self.verifier.challenge()
        for monitor in ("o", "", "mm", "M"):
            self.stays(token_of(monitor, (), word))
        for measure in (MEASURE[:1], MEASURE[::-1], MEASURE + (1,), ((),), (MEASURE,)):
            self.stays(token_of("m", measure, word))
        for other in (challenge(1), challenge(0, "w"), challenge(0, ""), (word,), ("v", 0), None, 0, token(word), seal()):
            self.stays(token_of("m", (), other))
        for other in (None, 0, "x", (), word, (token(word),), ("m", (), word), seal(), ticket()) + NO_WORDS:
            self.stays(other)
        self.assertIs(self.verifier.take(token(word)), True)

    def test_nothing_is_trusted_or_asked_for(self):
        for monitors, measures in (((), ((),)), (("m",), ()), ((), ())):
            verifier = Verifier("v", monitors, measures)
            self.assertIs(verifier.take(token(verifier.challenge())), False)
            self.assertEqual(verifier.open_ones(), [challenge(0)])

    def test_other_verifiers(self):
        same, strange = Verifier("v", ("m",), ((),)), Verifier("w", ("m",), ((),))
        first, second, other = same.challenge(), same.challenge(), strange.challenge()
        # Another verifier with this name has given it, but this one has not.
        self.stays(token(first))
        own = self.verifier.challenge()
        self.assertEqual(own, first)
        self.stays(token(second))
        self.stays(token(other))
        self.assertIs(self.verifier.take(token(first)), True)
        self.assertEqual(same.open_ones(), [first, second])
        self.assertIs(same.take(token(own)), True)
        self.assertIs(strange.take(token(other)), True)

    def test_measures_with_atoms(self):
        measure = (("page", 0, (seal(), challenge(2), 0, token((1, challenge(3))))),)
        verifier = Verifier("v", ("m",), (measure,))
        word = verifier.challenge()
        for other in (
            (("page", 0, (seal(number=2), challenge(2), 0, token((1, challenge(3))))),),
            (("page", 0, (seal(), challenge(2), 0, token((1, challenge(4))))),),
        ):
            self.assertIs(verifier.take(token_of("m", other, word)), False)
        again = (("page", 0, (seal(), challenge(2), 0, token((1, challenge(3))))),)
        self.assertIs(verifier.take(token_of("m", again, word)), True)


class TruthTest(unittest.TestCase):
    """Tokens of realms that run: [30]."""

    PROGRAM = (("tell", 1, 1), ("token", 0, 1), ("tell", 0, 1), ("jump", 0))

    def built(self, memory, d, words=(1, "x", None, ()), registers=(0, 0, 0, 0)):
        """Builds a realm of the granules from d on, with a page from the host's granule 23; returns its measure."""
        root, leaf, data, cpu = range(d + 1, d + 5)
        for i, word in enumerate(words):
            memory.access(HOST, ("write", 23, i, word))
        do(memory, *[("delegate", g) for g in (d, root, leaf, data, cpu)])
        do(
            memory, ("create", d, root), ("table_create", d, leaf, 1), ("data_create", d, data, 23, 6),
            ("cpu_create", d, cpu, self.PROGRAM, registers), ("activate", d),
        )
        return memory.words(d)[2]

    def entered(self, memory, c, word=None, monitor="here"):
        return finish(Enter(memory, 0, ("enter", c, word), monitor))[1]

    def test_a_token_for_a_challenge(self):
        memory, host = Memory(), Knowledge()
        measure = self.built(memory, 1)
        verifier = Verifier("v", ("here",), (measure,))
        self.entered(memory, 5)
        given = verifier.challenge()
        host.take(given)
        made = token_of("here", measure, given)
        self.assertFalse(host.can_make(made))
        told = self.entered(memory, 5, given)
        self.assertEqual(told, made)
        host.take(told)
        self.assertTrue(host.can_make(made))
        self.assertFalse(host.can_make(token_of("here", measure, challenge(1))))
        self.assertIs(verifier.take(told), True)
        self.assertIs(verifier.take(told), False)
        # A token that was made ahead of its challenge cannot be: the next challenge has another number.
        self.assertIs(verifier.is_open(verifier.challenge()), True)
        self.assertIs(verifier.take(told), False)

    def test_measures_tell_how_a_realm_began(self):
        memory = Memory()
        first, alike = self.built(memory, 1), self.built(memory, 6)
        others = self.built(memory, 11, words=(1, "x", None, 0)), self.built(memory, 16, registers=(1, 0, 0, 0))
        self.assertEqual(first, alike)
        self.assertEqual(first_pages(first), {6: memory.words(4)})
        self.assertEqual(first_cpus(first), ((memory.words(5)[3], memory.words(5)[1]),))
        verifier = Verifier("v", ("here",), (first,))
        for d, measure in ((1, first), (6, alike), (11, others[0]), (16, others[1])):
            given = verifier.challenge()
            self.entered(memory, d + 4)
            told = self.entered(memory, d + 4, given)
            self.assertEqual(told, token_of("here", measure, given))
            self.assertIs(verifier.take(told), d in (1, 6))
        # It is the measure of how the realm began, whatever has become of it.
        do(memory, ("data_destroy", 1, 6), ("delegate", 22), ("data_fresh", 1, 22, 5), ("kill", 6))
        self.entered(memory, 5)
        self.assertEqual(self.entered(memory, 5, 7), token_of("here", first, 7))

    def test_other_monitors(self):
        memory = Memory()
        measure = self.built(memory, 1)
        verifier = Verifier("v", ("here",), (measure,))
        given = verifier.challenge()
        self.entered(memory, 5)
        told = self.entered(memory, 5, given, "there")
        self.assertEqual(told, token_of("there", measure, given))
        self.assertIs(verifier.take(told), False)
