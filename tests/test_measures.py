"""Points [20], [21] and [30] for the measure of a realm."""

import unittest

from hermitcell import measures
from hermitcell.measures import first_cpus, first_pages, is_measure
from tests.helpers import (
    D, MEASURE, NO_WORDS, PROGRAM, REGISTERS, SOURCE, TrickyText, challenge, do, nested, ranked, realm, seal, ticket,
)

END = ("end",)
WORDS = (0, "x", None, ())
PAGE = ("page", 0, WORDS)
CPU = ("cpu", PROGRAM, REGISTERS)


class MeasureTest(unittest.TestCase):
    def is_right(self, *values):
        for value in values:
            self.assertIs(is_measure(value), True, value)

    def is_wrong(self, *values):
        for value in values:
            self.assertIs(is_measure(value), False, value)

    def test_all_is_defined_in_its_file(self):
        for each in (is_measure, first_pages, first_cpus):
            self.assertEqual(each.__module__, measures.__name__)

    def test_right_ones(self):
        self.is_right(
            (), (PAGE,), (CPU,), (CPU, PAGE, CPU), MEASURE, (CPU,) * 30,
            tuple(("page", page, WORDS) for page in (7, 3, 0, 1, 2, 4, 5, 6)) + (CPU,),
        )

    def test_the_measure_of_a_realm(self):
        memory = realm("new")
        do(memory, ("data_create", D, 7, 21, 0), ("cpu_create", D, 8, (END,), (0,) * 4))
        measure = memory.words(D)[2]
        self.is_right(measure)
        self.assertEqual(first_pages(measure), {1: SOURCE, 0: SOURCE})
        self.assertEqual(first_cpus(measure), ((PROGRAM, REGISTERS), ((END,), (0,) * 4)))

    def test_pages(self):
        for page in range(8):
            self.is_right((("page", page, WORDS),))
        for page in (8, 15, -1, 24, None, "0", (0,), challenge(0)) + NO_WORDS:
            self.is_wrong((("page", page, WORDS),))
        self.is_wrong((PAGE, PAGE), (PAGE, CPU, ("page", 0, (1, 2, 3, 4))), (("page", 7, WORDS), PAGE, ("page", 7, WORDS)))

    def test_words(self):
        for at in range(4):
            for word in (None, -2 ** 31, "a" * 24, (), nested(40), ranked(40), seal(), ticket()):
                self.is_right((("page", 0, WORDS[:at] + (word,) + WORDS[at + 1:]),))
            for word in NO_WORDS:
                self.is_wrong((("page", 0, WORDS[:at] + (word,) + WORDS[at + 1:]),))
        for words in NO_WORDS + (None, 0, "abcd", (), WORDS[:3], WORDS + (0,), list(WORDS), (WORDS,), challenge(0)):
            self.is_wrong((("page", 0, words),))

    def test_virtual_processors(self):
        self.is_right((("cpu", (END,), (0,) * 4),), (("cpu", (END,) * 24, (nested(10), ranked(36), None, "")),))
        for program in NO_WORDS + (None, 0, (), END, (END,) * 25, [END], (("set", 0, 1),), (("jump", 1),), ([*END],)):
            self.is_wrong((("cpu", program, REGISTERS),))
        for registers in NO_WORDS + (
            None, 0, (), (0,) * 3, (0,) * 5, [0] * 4, (nested(11), 0, 0, 0), (0, 0, 0, ranked(37)), (0, True, 0, 0),
        ):
            self.is_wrong((("cpu", PROGRAM, registers),))

    def test_other_parts(self):
        for part in (PAGE, CPU):
            self.is_wrong(
                part, (part[:2],), (part + (0,),), (part + (None,),), (list(part),), [part], ((part,),),
                (part[:2] + (list(part[2]),),), ((TrickyText(part[0]),) + part[1:],), ((part[0].upper(),) + part[1:],),
                ((part[0] + " ",) + part[1:],), (part[1:],), {part[0]: part}, (part, None), (part, ()),
            )
        self.is_wrong((("page", PROGRAM, REGISTERS),), (("cpu", 0, WORDS),), (("", 0, WORDS),), ((None, 0, WORDS),), ("page",))
        self.is_wrong(((("page",), 0, WORDS),), (("data", 0, WORDS),), (challenge(0),))
        self.is_wrong(*NO_WORDS, None, 0, "", "cpu", challenge(0), [], ["cpu"])
        self.is_wrong(*[(part,) for part in NO_WORDS])

    def test_measures_that_are_nested_deeper_than_words(self):
        measure = (("page", 0, (nested(40),) * 4), CPU)
        self.is_right(measure)
        self.assertEqual(first_pages(measure), {0: (nested(40),) * 4})
        self.assertEqual(first_cpus(measure), ((PROGRAM, REGISTERS),))

    def test_first_ones(self):
        self.assertEqual(first_pages(()), {})
        self.assertEqual(first_cpus(()), ())
        others = (("cpu", (END,), (1, 2, 3, 4)), CPU, ("cpu", (END,), (0,) * 4), CPU)
        measure = (others[0], ("page", 5, (5,) * 4), others[1], PAGE, ("page", 2, (2,) * 4), others[2], others[3])
        self.assertEqual(list(first_pages(measure).items()), [(5, (5,) * 4), (0, WORDS), (2, (2,) * 4)])
        self.assertEqual(first_cpus(measure), tuple(part[1:] for part in others))

    def test_the_dict_is_the_callers(self):
        measure = (PAGE, CPU)
        told = first_pages(measure)
        told[3] = WORDS
        del told[0]
        self.assertEqual(first_pages(measure), {0: WORDS})
        self.assertEqual(measure, (PAGE, CPU))
        self.assertIs(type(told), dict)
        self.assertIs(type(first_cpus(measure)), tuple)
        self.assertIs(type(first_cpus(measure)[0]), tuple)
