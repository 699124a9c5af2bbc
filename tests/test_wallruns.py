"""Points [63] and [64]."""

import random
import unittest

from hermitcell import wallruns
from hermitcell.audit import audit, realms
from hermitcell.errors import NotValid
from hermitcell.twins import Twins
from hermitcell.views import Watch, integrity_fault
from hermitcell.wallruns import KINDS, is_broken, kind_of, run_of
from hermitcell.walls import WALLS, WeakWorld
from hermitcell.words import Atom, Knowledge
from tests.helpers import NO_WORDS, TrickyText, challenge

CHOICES = (
    tuple(range(12)), tuple(range(23, 11, -1)), (5, 0, 23, 7, 1, 22, 9, 3, 15, 11, 18, 2),
    (12, 13, 14, 15, 8, 9, 10, 11, 4, 5, 6, 7),
    tuple(random.Random(1).sample(range(24), 12)), tuple(random.Random(2).sample(range(24), 12)),
)
WRONG_CHOICES = NO_WORDS + (
    None, 0, "x", (), CHOICES[0][:11], CHOICES[0] + (12,), CHOICES[0] + (0,), list(CHOICES[0]), CHOICES[0][:11] + (0,), (1,) * 12,
    CHOICES[0][:11] + (24,),
    (-1,) + CHOICES[0][1:], (True,) + CHOICES[0][2:] + (12,), ("0",) + CHOICES[0][1:], (None,) + CHOICES[0][1:], ([],) * 12,
    ({},) * 12,
    (CHOICES[0],), challenge(0), {g: g for g in range(12)}, (challenge(0),) * 12, (1.0,) + CHOICES[0][2:] + (12,),
)
WRONG_WALLS = NO_WORDS + (0, "", "Wipe", "wall", ("wipe",), ["wipe"], {}, challenge(0), TrickyText("wipe"), WALLS)


def granules_in(act):
    """The granules that an act names."""
    if act[0] == "host":
        request = act[2]
        found = [request[1]]
        if request[0] == "write" and type(request[3]) is tuple:
            found += [part for part in request[3] if type(part) is int]
        return found
    if act[0] != "call":
        return []
    name, *parts = act[2]
    many = {
        "create": 2, "table_create": 2, "data_create": 3, "data_fresh": 2, "cpu_create": 2, "cpu_destroy": 2, "come": 2,
        "place": 2,
        "place_cpu": 2, "page_in": 2, "seal_cpu": 2,
    }.get(name, 1)
    return parts[:many] + ([parts[2]] if name == "share" else [])


class KindTest(unittest.TestCase):
    def test_names(self):
        self.assertEqual(KINDS, ("audit", "secrecy", "integrity", "line"))
        for each in (kind_of, run_of, is_broken):
            self.assertEqual(each.__module__, wallruns.__name__)

    def test_kinds(self):
        self.assertEqual([kind_of(wall) for wall in WALLS], [
            "secrecy", "integrity", "secrecy", "integrity", "audit", "audit", "audit", "audit", "integrity", "integrity",
            "integrity",
            "audit", "line", "line", "integrity",
        ])

    def test_wrong_walls(self):
        for wall in WRONG_WALLS + (None,):
            with self.assertRaises(NotValid):
                kind_of(wall)
            with self.assertRaises(NotValid):
                run_of(wall, CHOICES[0])
            with self.assertRaises(NotValid):
                is_broken(wall, CHOICES[0], None)
        for wall in WRONG_WALLS:
            with self.assertRaises(NotValid):
                is_broken("wipe", CHOICES[0], wall)

    def test_wrong_granules(self):
        for granules in WRONG_CHOICES:
            for wall in ("wipe", "once", "rows"):
                with self.assertRaises(NotValid):
                    run_of(wall, granules)
                with self.assertRaises(NotValid):
                    is_broken(wall, granules, wall)


class RunTest(unittest.TestCase):
    def test_the_form_of_a_run(self):
        for wall in WALLS:
            for granules in CHOICES:
                before, changes, after = run_of(wall, granules)
                self.assertIs(type(run_of(wall, granules)), tuple)
                self.assertEqual([type(before), type(changes), type(after)], [list, dict, list])
                kind = kind_of(wall)
                self.assertEqual(bool(changes), kind == "secrecy")
                for row in before + after:
                    self.assertEqual((type(row), len(row)), (tuple, 2))
                    self.assertIn(row[0], (0, 1, 2))
                if kind == "secrecy":
                    self.assertEqual({number for number, _ in after}, {0})
                # All acts can be, in a world without the wall.
                known = Knowledge()
                worlds = [WeakWorld(name, wall, known) for name in ("here", "there", "far")]
                for number, act in before + after:
                    self.assertNotEqual(worlds[number].act(act), ("cannot",), (wall, act))

    def test_they_name_no_other_granules(self):
        for wall in WALLS:
            for granules in CHOICES:
                before, changes, after = run_of(wall, granules)
                for _, act in before + after:
                    for g in granules_in(act):
                        self.assertIn(g, granules, (wall, act))
                for g, _ in changes:
                    self.assertIn(g, granules)

    def test_a_line_begins_once(self):
        for wall in ("once", "target"):
            before, _, after = run_of(wall, CHOICES[0])
            names = [act[2][0] for _, act in before + after if act[0] == "call"]
            self.assertEqual((names.count("create"), names.count("come")), (1, 2))

    def test_runs_are_the_callers(self):
        before, changes, after = run_of("wipe", CHOICES[2])
        kept = (list(before), dict(changes), list(after))
        before.clear(), changes.clear(), after.clear()
        self.assertEqual(run_of("wipe", CHOICES[2]), kept)


class BrokenTest(unittest.TestCase):
    def test_without_the_wall_and_with_all(self):
        for wall in WALLS:
            for granules in CHOICES:
                self.assertIs(is_broken(wall, granules, wall), True, (wall, granules))
                self.assertIs(is_broken(wall, granules, None), False, (wall, granules))

    def test_without_another_wall(self):
        for wall in WALLS:
            for other in WALLS:
                if other != wall:
                    self.assertIs(is_broken(wall, CHOICES[2], other), False, (wall, other))

    def test_what_breaks(self):
        """The promises of all kinds, asked one by one."""
        for wall in WALLS:
            for granules in CHOICES[:3]:
                for without in (wall, None):
                    found = self.broken_kinds(wall, granules, without)
                    if without is None:
                        self.assertEqual(found, [], wall)
                    else:
                        self.assertIn(kind_of(wall), found)

    def broken_kinds(self, wall, granules, without):
        before, changes, after = run_of(wall, granules)
        known = Knowledge()
        worlds = [WeakWorld(name, without, known) for name in ("here", "there", "far")]
        watch = Watch(worlds[0])
        found = []
        for number, act in before:
            watch.act(act) if number == 0 else worlds[number].act(act)
        if kind_of(wall) == "secrecy":
            twins = Twins(watch, granules[0], changes)
            for _, act in after:
                twins.act(act)
            if twins.fault() is not None:
                found.append("secrecy")
        for number, act in after:
            watch.act(act) if number == 0 else worlds[number].act(act)
        if any(audit(world.memory()) for world in worlds):
            found.append("audit")
        if any(integrity_fault(watch, n) is not None for n in range(watch.many())):
            found.append("integrity")
        states = [world.memory().words(d)[0] for world in worlds for d in realms(world.memory())]
        if kind_of(wall) == "line" and len([state for state in states if state != "dying" and state[0] != "gone"]) > 1:
            found.append("line")
        return found

    def test_the_host_sees_a_secret(self):
        # Not only the calls show it: the host reads it, or is told it by another realm.
        for wall, parts in (("wipe", ("word",)), ("source", ("answer", ("told",)))):
            before, changes, after = run_of(wall, CHOICES[1])
            watch = Watch(WeakWorld("here", wall))
            for _, act in before:
                watch.act(act)
            twins = Twins(watch, CHOICES[1][0], changes)
            results = [twins.act(act) for _, act in after]
            differ = [one for one, other in results if one != other]
            self.assertTrue(differ, wall)
            self.assertEqual(differ[0][0], parts[0])
            self.assertIsNone(twins.parted())

    def test_atoms_are_those_of_the_monitors(self):
        before, _, after = run_of("target", CHOICES[0])
        tickets = [act[2][3] for _, act in before + after if act[0] == "call" and act[2][0] == "come"]
        self.assertEqual([(type(each), each.term[2]) for each in tickets], [(Atom, "there"), (Atom, "far")])
