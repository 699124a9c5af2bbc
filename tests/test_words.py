"""Points [3] to [6], and what [1] and [2] say of words."""

import unittest

from hermitcell import words
from hermitcell.errors import NotValid
from hermitcell.words import Atom, Knowledge, atoms_in, is_host_word, is_monitor, is_number, is_word, rank_of, strip
from tests.helpers import NO_WORDS, Hostile, TrickyText, challenge, doubled, nested, ranked, seal, ticket, token

WORDS = (
    None, 0, 1, -1, 2 ** 31 - 1, -2 ** 31, "", "a", " ", "~", " ~" * 12, (), (None,), (1, "a", ()), nested(10),
    challenge(0), (challenge(0), token(1)), seal(), seal(words=None), ticket(), ranked(36),
)


def rank_36_deep():
    """A token of rank 36, in which each challenge is nested 40 deep."""
    atom = challenge(0)
    while atom.rank < 36:
        atom = token((atom, nested(39, seal(atom.rank))))
    return atom


def sealed(many):
    """So many seals, each in the next one, which recursion could not follow."""
    atom = challenge(0)
    for n in range(many):
        atom = seal(1, n % 8, (0, (atom,), 0, 0))
    return atom


class ConstantsTest(unittest.TestCase):
    def test_constants(self):
        self.assertEqual((words.LEAST, words.GREATEST), (-2147483648, 2147483647))
        self.assertEqual((words.MOST_CHARACTERS, words.MOST_DEEP, words.MOST_DEEP_HOST), (24, 40, 10))
        self.assertEqual((words.MOST_RANK, words.MOST_RANK_HOST), (40, 36))
        self.assertEqual(words.KINDS, {"token": 3, "challenge": 2, "seal": 4, "page": 4, "ticket": 6})

    def test_all_is_defined_in_its_file(self):
        for each in (Atom, Knowledge, atoms_in, is_host_word, is_monitor, is_number, is_word, rank_of, strip):
            self.assertEqual(each.__module__, words.__name__)


class WordTest(unittest.TestCase):
    def test_numbers(self):
        for value in (0, 1, -1, 2 ** 31 - 1, -2 ** 31):
            self.assertIs(is_number(value), True)
        for value in (2 ** 31, -2 ** 31 - 1, 10 ** 30, True, False, None, "1", 1.0, (1,), [1], Hostile(), challenge(0)):
            self.assertIs(is_number(value), False)

    def test_words(self):
        for value in WORDS:
            self.assertIs(is_word(value), True)
            self.assertIs(is_host_word(value), True)

    def test_what_is_no_word(self):
        for value in NO_WORDS:
            self.assertIs(is_word(value), False)
            self.assertIs(is_host_word(value), False)
            self.assertIs(is_word((1, value)), False)
            self.assertIs(is_host_word(("a", (value,), 2)), False)

    def test_strings_at_their_ends(self):
        self.assertTrue(is_word("a" * 24))
        self.assertFalse(is_word("a" * 25))
        for code in range(300):
            self.assertIs(is_word("a" + chr(code)), 32 <= code <= 126)

    def test_depths(self):
        for inner in (None, 5, "a", challenge(0), ()):
            deeper = 1 if inner == () else 0
            self.assertTrue(is_word(nested(40 - deeper, inner)))
            self.assertFalse(is_word(nested(41 - deeper, inner)))
            self.assertTrue(is_host_word(nested(10 - deeper, inner)))
            self.assertFalse(is_host_word(nested(11 - deeper, inner)))
        self.assertTrue(is_word((0, nested(39), 0)))
        self.assertFalse(is_word((0, nested(40), 0)))
        self.assertTrue(is_host_word((0, nested(9), 0)))
        self.assertFalse(is_host_word((0, nested(10), 0)))
        self.assertFalse(is_word(doubled(41)))

    def test_an_atom_is_not_nested(self):
        deep = token(nested(40))
        self.assertTrue(is_host_word(deep))
        self.assertTrue(is_host_word(nested(10, deep)))

    def test_ranks_of_words_of_hosts(self):
        for rank in range(1, 41):
            atom = ranked(rank)
            self.assertTrue(is_word(atom))
            self.assertIs(is_host_word(atom), rank <= 36)
            self.assertIs(is_host_word((1, (atom,))), rank <= 36)

    def test_monitors(self):
        for value in ("a", " ", "~" * 24):
            self.assertIs(is_monitor(value), True)
        for value in ("", None, 1, (), ("a",), challenge(0)) + NO_WORDS:
            self.assertIs(is_monitor(value), False)


class AtomTest(unittest.TestCase):
    def refuses(self, kind, term):
        with self.assertRaises(NotValid):
            Atom(kind, term)

    def test_fields(self):
        atom = Atom("challenge", ("v", 2))
        self.assertEqual((atom.kind, atom.term, atom.rank), ("challenge", ("v", 2), 1))

    def test_every_kind(self):
        words_of_page = (1, "a", (), challenge(0))
        terms = (
            ("token", ("", (), None)), ("token", ("m", (("cpu",),), (1, 2))),
            ("challenge", ("", -2 ** 31)), ("challenge", ("v" * 24, 2 ** 31 - 1)),
            ("seal", ("", 0, -1, None)), ("seal", ("m", 5, 99, words_of_page)),
            ("page", ("", 0, -1, None)), ("page", ("m", 5, 99, words_of_page)),
            ("ticket", ("", -5, "", (), (None,) * 8, ())), ("ticket", ("m", 1, "n", (1,), words_of_page * 2, (3,))),
        )
        for kind, term in terms:
            atom = Atom(kind, term)
            self.assertEqual((atom.kind, atom.term), (kind, term))
            self.assertEqual(len(term), words.KINDS[kind])

    def test_wrong_kinds(self):
        for kind in ("Token", "", "desc", None, 1, ("challenge",)) + NO_WORDS:
            for term in (("v", 2), ("m", (), 1), ("m", 1, 2, None)):
                self.refuses(kind, term)
        self.refuses(TrickyText("challenge"), ("v", 2))

    def test_wrong_numbers_of_parts(self):
        terms = {
            "token": ("m", (), 1), "challenge": ("v", 2), "seal": ("m", 1, 2, None), "page": ("m", 1, 2, None),
            "ticket": ("m", 1, "n", (), (None,) * 8, ()),
        }
        for kind, term in terms.items():
            Atom(kind, term)
            for wrong in (term[:-1], term + (None,), term + (1,), (), list(term), None, "mm", Hostile()):
                self.refuses(kind, wrong)

    def test_wrong_parts(self):
        others = {
            "text": (None, 1, (), challenge(0)), "number": (None, "1", (), challenge(0)),
            "tuple": (None, 1, "", challenge(0)), "word": (),
            "hidden": (1, "", (), (1, 2, 3), (1, 2, 3, 4, 5), challenge(0), nested(40, 1), (0, 0, 0, nested(40))),
            "pages": (None, 1, "", (), (None,) * 7, (None,) * 9, challenge(0), (nested(40),) + (None,) * 7),
        }
        terms = (
            ("token", ("m", (), 1), ("text", "tuple", "word")),
            ("challenge", ("v", 2), ("text", "number")),
            ("seal", ("m", 1, 2, None), ("text", "number", "number", "hidden")),
            ("page", ("m", 1, 2, None), ("text", "number", "number", "hidden")),
            ("ticket", ("m", 1, "n", (), (None,) * 8, ()), ("text", "number", "text", "tuple", "pages", "tuple")),
        )
        for kind, term, forms in terms:
            for at, form in enumerate(forms):
                for wrong in others[form] + NO_WORDS:
                    self.refuses(kind, term[:at] + (wrong,) + term[at + 1:])

    def test_parts_are_nested_at_most_40_deep(self):
        self.assertEqual(token(nested(40), "m", nested(40)).rank, 1)
        self.refuses("token", ("m", (), nested(41)))
        self.refuses("token", ("m", nested(41), 1))
        self.assertEqual(seal(words=(0, 0, 0, nested(39))).rank, 1)
        self.refuses("seal", ("m", 1, 2, (0, 0, 0, nested(40))))

    def test_ranks(self):
        two = token(challenge(0))
        self.assertEqual([two.rank, token(two).rank, token(1).rank, challenge(5).rank], [2, 3, 1, 1])
        self.assertEqual(token((challenge(0), (two, 5)), "m", (token(two),)).rank, 4)
        for kind in ("seal", "page"):
            self.assertEqual(seal(words=(ranked(40), ranked(36), 0, 0), kind=kind).rank, 1)
            self.assertEqual(token(seal(words=(ranked(30),) * 4, kind=kind)).rank, 2)
        self.assertEqual(ticket(pages=(two,) + (None,) * 7).rank, 3)
        self.assertEqual(ticket(measure=(1, two)).rank, 3)
        self.assertEqual(ticket(cpus=((two,),)).rank, 3)

    def test_ranks_at_their_ends(self):
        self.assertEqual(token(ranked(35)).rank, 36)
        for measure, word in (((), ranked(36)), ((ranked(36),), 1), ((), (1, (ranked(40),)))):
            self.refuses("token", ("m", measure, word))
        self.assertEqual(ticket(measure=(ranked(36),)).rank, 37)
        self.assertEqual(ticket(measure=(ranked(39),)).rank, 40)
        self.refuses("ticket", ("m", 1, "n", (ranked(40),), (None,) * 8, ()))
        self.refuses("ticket", ("m", 1, "n", (), (None,) * 7 + (ranked(40),), ()))

    def test_equality(self):
        pairs = (
            (challenge(2), challenge(2)), (seal(), seal()), (seal(words=None), seal(words=None)),
            (token((1, challenge(2))), token((1, challenge(2)))), (ticket(cpus=(1,)), ticket(cpus=(1,))),
        )
        for one, other in pairs:
            self.assertIsNot(one, other)
            self.assertTrue(one == other)
            self.assertFalse(one != other)
            self.assertTrue((1, (one,)) == (1, (other,)))

    def test_what_is_not_equal(self):
        atoms = (
            challenge(2), challenge(3), challenge(2, "w"), token(2), token("2"), token(None), token(()), token((2,)),
            token((2, 2)), token(((), ())), token((((),),)), token(challenge(2)), token(challenge(3)), token(token(2)),
            token(2, "n"), token(2, "m", (2,)), seal(), seal(words=None), seal(2), seal(1, 1), seal(source="n"), seal(kind="page"),
            seal(words=(1, 2, 3, "4")), ticket(), ticket(cpus=(1,)), token(seal()), token(seal(kind="page")),
        )
        others = (None, 0, 2, "", "challenge", (), ("v", 2), ("challenge", ("v", 2)), object())
        for at, one in enumerate(atoms):
            for place, other in enumerate(atoms):
                self.assertIs(one == other, at == place)
                self.assertIs(one != other, at != place)
            for other in others:
                self.assertIs(one == other, False)
                self.assertIs(other == one, False)

    def test_deep_atoms_are_compared(self):
        self.assertTrue(rank_36_deep() == rank_36_deep())
        self.assertFalse(rank_36_deep() == token(rank_36_deep().term[2][0]))
        self.assertTrue(sealed(5000) == sealed(5000))
        self.assertFalse(sealed(5000) == sealed(5001))


class AtomsInTest(unittest.TestCase):
    def test_order_and_once(self):
        one, two, three = challenge(1), token(challenge(9)), seal()
        self.assertEqual(atoms_in((0, (two, "a"), one, (three, (two,)), challenge(1))), [two, one, three])
        self.assertEqual(atoms_in(one), [one])
        self.assertEqual(atoms_in((one, two, three, one)), [one, two, three])
        for word in (None, 5, "a", (), (1, (2,))):
            self.assertEqual(atoms_in(word), [])

    def test_what_atoms_stand_for_does_not_occur(self):
        inner = challenge(7)
        for atom in (token(inner), token(1, "m", (inner,)), seal(words=(inner,) * 4), ticket(cpus=(inner,))):
            self.assertEqual(atoms_in((1, atom)), [atom])

    def test_the_list_is_the_callers(self):
        word = (challenge(1), challenge(2))
        atoms_in(word).clear()
        self.assertEqual(atoms_in(word), [challenge(1), challenge(2)])
        self.assertEqual(word, (challenge(1), challenge(2)))

    def test_ranks_of_words(self):
        for word in (None, 5, "a", (), (1, (2,))):
            self.assertEqual(rank_of(word), 0)
        self.assertEqual(rank_of((challenge(1), (token(challenge(1)), 5), seal(words=(ranked(9),) * 4))), 2)
        self.assertEqual(rank_of(ranked(40)), 40)
        self.assertEqual(rank_of(nested(40, ranked(36))), 36)

    def test_deeper_than_a_word(self):
        deep = nested(20000, challenge(1))
        self.assertEqual(atoms_in((deep, challenge(2), deep)), [challenge(1), challenge(2)])
        self.assertEqual(rank_of(deep), 1)


class StripTest(unittest.TestCase):
    def test_what_has_no_words(self):
        for word in (None, -5, "", "seal", (), (1, ("a", ())), challenge(1), (challenge(1), token(challenge(2)))):
            self.assertEqual(strip(word), word)

    def test_seals_and_pages(self):
        for kind in ("seal", "page"):
            bare = seal(words=None, kind=kind)
            self.assertEqual(strip(seal(kind=kind)), bare)
            self.assertEqual(strip(bare), bare)
            self.assertEqual(strip((1, (seal(words=(seal(2),) * 4, kind=kind), "a"), ())), (1, (bare, "a"), ()))

    def test_terms_of_tokens_and_tickets(self):
        full, bare = (1, (seal(), seal(kind="page"))), (1, (seal(words=None), seal(words=None, kind="page")))
        self.assertEqual(strip(token(full)), token(bare))
        self.assertEqual(strip(token(1, "m", full)), token(1, "m", bare))
        self.assertEqual(strip((token(token(full)),)), (token(token(bare)),))
        self.assertEqual(strip(ticket(measure=full, cpus=(full,))), ticket(measure=bare, cpus=(bare,)))
        self.assertEqual(strip(ticket(pages=(full,) * 8)), ticket(pages=(bare,) * 8))
        self.assertEqual(strip(token(ticket(cpus=(token(full),)))), token(ticket(cpus=(token(bare),))))

    def test_nothing_is_changed(self):
        inner = seal()
        word = (inner, token((inner, 1)))
        strip(word)
        self.assertEqual(inner, seal())
        self.assertEqual(word, (seal(), token((seal(), 1))))

    def test_seals_of_one_place_are_equal(self):
        one, other = seal(3, 4, (1, 2, 3, 4)), seal(3, 4, (5, 6, 7, 8))
        self.assertNotEqual(one, other)
        self.assertEqual(strip(one), strip(other))
        for another in (seal(4, 4), seal(3, 5), seal(3, 4, source="n"), seal(3, 4, kind="page")):
            self.assertNotEqual(strip(one), strip(another))

    def test_ranks_stay(self):
        for rank in (1, 2, 36, 37, 40):
            self.assertEqual(strip(ranked(rank)).rank, rank)
        self.assertEqual(strip(token((seal(), token(seal())))).rank, 3)

    def test_deeper_than_calls_may_be(self):
        bare = strip(rank_36_deep())
        self.assertEqual(strip(bare), bare)
        self.assertEqual(bare.rank, 36)
        self.assertNotEqual(bare, rank_36_deep())
        self.assertEqual(strip(sealed(5000)), seal(1, 4999 % 8, None))
        deep = strip(nested(20000, seal()))
        for _ in range(20000):
            (deep,) = deep
        self.assertEqual(deep, seal(words=None))

    def test_tokens_that_hold_the_same_token_many_times(self):
        # To go through each of its places would take for ever.
        for inner in (challenge(0), seal()):
            atom = inner
            while atom.rank < 36:
                atom = token(atom, measure=(("x", atom),) * 30)
            bare = strip(atom)
            self.assertEqual(bare.rank, 36)
            self.assertEqual(strip(bare), bare)
            self.assertIs(bare == atom, inner == challenge(0))
            self.assertEqual(strip((atom, (atom,))), (bare, (bare,)))
            self.assertEqual(ticket(measure=(atom, (atom,))), ticket(measure=(atom, (atom,))))


class KnowledgeTest(unittest.TestCase):
    def test_example(self):
        known = Knowledge()
        known.take((1, Atom("challenge", ("v", 2))))
        self.assertIs(known.can_make(("x", Atom("challenge", ("v", 2)))), True)
        self.assertIs(known.can_make(Atom("challenge", ("v", 3))), False)

    def test_at_first(self):
        known = Knowledge()
        self.assertEqual(known.atoms(), [])
        for word in (None, 5, "a", (), nested(40), (1, ("a", nested(38)))):
            self.assertIs(known.can_make(word), True)
        for word in (challenge(0), (1, (seal(),)), nested(40, ranked(36))):
            self.assertIs(known.can_make(word), False)

    def test_all_atoms_are_needed(self):
        known = Knowledge()
        known.take((challenge(1), (2, seal())))
        self.assertTrue(known.can_make((seal(), (challenge(1), seal()))))
        self.assertFalse(known.can_make((seal(), (challenge(1), challenge(2)))))
        self.assertFalse(known.can_make(seal(words=None)))

    def test_what_atoms_stand_for_is_not_had(self):
        known = Knowledge()
        known.take(token(challenge(1)))
        self.assertTrue(known.can_make((token(challenge(1)),)))
        self.assertFalse(known.can_make(challenge(1)))
        known = Knowledge()
        known.take(challenge(1))
        self.assertFalse(known.can_make(token(challenge(1))))

    def test_what_is_no_word(self):
        known = Knowledge()
        known.take(ranked(40))
        self.assertIs(known.can_make(ranked(40)), True)
        self.assertIs(known.can_make(nested(41, ranked(40))), False)
        for value in NO_WORDS:
            self.assertIs(known.can_make(value), False)
            self.assertIs(known.can_make((ranked(40), value)), False)

    def test_order(self):
        known = Knowledge()
        self.assertIsNone(known.take((challenge(2), (seal(), challenge(2)))))
        known.take((challenge(1), challenge(2), token(1)))
        self.assertEqual(known.atoms(), [challenge(2), seal(), challenge(1), token(1)])

    def test_the_list_is_the_callers(self):
        known = Knowledge()
        known.take(challenge(1))
        told = known.atoms()
        known.take(challenge(2))
        self.assertEqual(told, [challenge(1)])
        known.atoms().clear()
        self.assertEqual(known.atoms(), [challenge(1), challenge(2)])

    def test_a_copy_goes_on_by_itself(self):
        known = Knowledge()
        known.take(challenge(1))
        other = known.copy()
        self.assertEqual(other.atoms(), [challenge(1)])
        known.take(challenge(2))
        other.take(challenge(3))
        self.assertEqual(known.atoms(), [challenge(1), challenge(2)])
        self.assertEqual(other.atoms(), [challenge(1), challenge(3)])

    def test_deeper_than_a_word(self):
        known = Knowledge()
        known.take(nested(20000, seal()))
        self.assertEqual(known.atoms(), [seal()])
