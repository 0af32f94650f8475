import random
import unittest

from tests.brute import every_ring, is_bad, parts_of, small_mills, some_setting, sum_and_divisor
from tests.samples import BARE, EDGES, EMPTY, GREAT, MILLS, SQUARE
from wheelmarks.errors import NoSaying
from wheelmarks.rings import (
    all_rings, bad_ring, can_be_kept, is_bad_ring, is_ring, kept_lots, least_bad, ring_divisor, ring_sum, rings_of,
)

WHEELS = (("a", 12, 1), ("b", 8, 1), ("c", 6, 1))
MILL = (WHEELS, (("p", "a", "b", 3, 12), ("q", "b", "c", 2, 4), ("r", "a", "c", 5, 6)))
WRONG = (WHEELS, (
    ("p", "a", "b", 3, 12), ("q", "b", "c", 2, 4), ("r", "a", "c", 4, 6), ("s", "", "a", 7, 9), ("t", "c", "", 0, 1),
))
TWO = ((("a", 2, 1),), (("x", "", "a", 3, 10), ("y", "a", "", 1, 4), ("z", "a", "", 2, 10 ** 40)))
PQR = (("p", 1), ("q", 1), ("r", -1))
DIALS = (0, 1, 2, 3, 4, 6)


def no_saying(case, name, function, *values):
    with case.assertRaises(NoSaying) as caught:
        function(*values)
    case.assertEqual(caught.exception.name, name)


class Examples(unittest.TestCase):
    def test_mill(self):
        ring = all_rings(MILL)[0]
        told = (
            all_rings(MILL), ring_sum(MILL, ring), ring_divisor(MILL, ring), can_be_kept(MILL), bad_ring(MILL),
            kept_lots(MILL),
        )
        self.assertEqual(told, ([PQR], 0, 2, True, None, [("p", "q", "r")]))

    def test_wrong(self):
        told = (
            ring_sum(WRONG, all_rings(MILL)[0]), can_be_kept(WRONG), least_bad(WRONG), len(all_rings(WRONG)),
            rings_of(WRONG, "t")[1],
        )
        self.assertEqual(told, (1, False, PQR, 3, (("r", 1), ("t", 1), ("s", 1))))
        self.assertEqual(kept_lots(WRONG), [("p", "q", "s", "t"), ("p", "r", "s", "t"), ("q", "r", "s", "t")])
        self.assertIs(is_bad_ring(WRONG, (("q", 1), ("r", -1), ("p", 1))), False)
        self.assertIs(is_ring(WRONG, (("r", 1), ("t", 1), ("s", 1))), True)

    def test_two(self):
        rings = [(("x", 1), ("y", 1)), (("x", 1), ("z", 1)), (("y", 1), ("z", -1))]
        told = all_rings(TWO), [ring_divisor(TWO, ring) for ring in all_rings(TWO)], least_bad(TWO)
        self.assertEqual(told, (rings, [2, 10, 4], rings[1]))
        no_saying(self, "a", rings_of, MILL, "a")


class Edges(unittest.TestCase):
    def test_without_wheels_or_sayings(self):
        for mill in (EMPTY, BARE):
            self.assertEqual((all_rings(mill), can_be_kept(mill), bad_ring(mill), least_bad(mill)), ([], True, None, None))
            self.assertEqual(kept_lots(mill), [()])
            self.assertIs(is_ring(mill, ()), False)

    def test_what_is_no_ring(self):
        for thing in (
            (), (("p", 1),), (("p", 1), ("p", -1)), (("p", 1), ("q", 1)), (("p", 1), ("q", 1), ("r", 1)),
            (("r", 1), ("q", -1), ("p", -1)), (("p", -1), ("r", 1), ("q", -1)), (("q", 1), ("r", -1), ("p", 1)),
            [("p", 1), ("q", 1), ("r", -1)], (["p", 1], ("q", 1), ("r", -1)), (("p", True), ("q", 1), ("r", -1)),
            (("p", 1), ("q", 1), ("z", -1)), (("p", 1), ("q", 1), (["r"], -1)), (("p", 1), ("q", 1), ("r", -2)),
            (("p", 1), ("q", 1), ("r", -1), ("p", 1), ("q", 1), ("r", -1)),
        ):
            self.assertIs(is_ring(MILL, thing), False, thing)
            self.assertIs(is_bad_ring((MILL[0], WRONG[1][:3]), thing), False, thing)
        self.assertIs(is_ring(MILL, PQR), True)
        self.assertIs(is_bad_ring(MILL, PQR), False)
        self.assertIs(is_bad_ring(WRONG, PQR), True)

    def test_an_end_twice_is_no_ring(self):
        # A bow: two RINGS with one WHEEL in common are no RING together.
        bow = (WHEELS, (("p", "a", "b", 0, 2), ("q", "b", "a", 0, 2), ("r", "a", "c", 0, 2), ("s", "c", "a", 0, 2)))
        self.assertIs(is_ring(bow, (("p", 1), ("q", 1), ("r", 1), ("s", 1))), False)
        self.assertEqual(all_rings(bow), [(("p", 1), ("q", 1)), (("r", 1), ("s", 1))])

    def test_two_steps_over_the_crank_to_the_tick(self):
        for late, good in ((3, True), (4, False), (3 - GREAT, False)):
            mill = (WHEELS[:1], (("p", "", "a", 3, 0), ("q", "", "a", late, 0)))
            ring = (("p", 1), ("q", -1))
            self.assertEqual(all_rings(mill), [ring])
            self.assertEqual((ring_sum(mill, ring), ring_divisor(mill, ring)), (3 - late, 0))
            self.assertEqual((can_be_kept(mill), bad_ring(mill)), (good, None if good else ring))

    def test_dial_1_is_never_bad(self):
        for mill in small_mills(random.Random(4), 30, 3, 6, (0, 1, 5), range(-9, 9)):
            free = {saying[0] for saying in mill[1] if saying[4] == 1}
            for ring in all_rings(mill):
                if free & {name for name, _ in ring}:
                    self.assertIs(is_bad_ring(mill, ring), False)

    def test_each_short_ring_good_and_no_setting(self):
        self.assertEqual([len(ring) for ring in all_rings(SQUARE)], [4])
        self.assertIs(can_be_kept(SQUARE), False)
        self.assertEqual(bad_ring(SQUARE), (("p", 1), ("r", 1), ("q", 1), ("s", -1)))
        tied = (SQUARE[0], SQUARE[1] + (("t", "a", "c", 0, 1), ("u", "b", "", 7, 9), ("v", "b", "", 16, 3)))
        short = [ring for ring in all_rings(tied) if len(ring) <= 3]
        self.assertEqual([is_bad_ring(tied, ring) for ring in short], [False] * 3)
        self.assertIs(can_be_kept(tied), False)
        self.assertEqual(least_bad(tied), bad_ring(SQUARE))

    def test_ways_and_rings_of_other_mills(self):
        way = (("s", 1), ("r", 1))
        self.assertEqual((ring_sum(WRONG, way), ring_divisor(WRONG, way)), (11, 3))
        self.assertEqual((ring_sum(MILL, (("q", -1),)), ring_divisor(MILL, (("q", -1),))), (-2, 4))
        self.assertEqual((ring_sum(WRONG, PQR), ring_divisor(WRONG, PQR)), (1, 2))

    def test_no_saying(self):
        for function in (ring_sum, ring_divisor):
            no_saying(self, "s", function, MILL, (("p", 1), ("s", 1), ("t", 1)))
            no_saying(self, "a", function, MILL, (("a", 1),))
        no_saying(self, "", rings_of, EMPTY, "")

    def test_great_mills(self):
        names = "abcdefgh"
        wheels = tuple((name, GREAT, 4) for name in names)
        ties = tuple(("t" + name, "", name, -GREAT, GREAT - 1) for name in names)
        more = tuple(("u" + name, "a", name, 0, GREAT - 1) for name in "bcde")
        self.assertIs(can_be_kept((wheels, ties + more)), True)
        off = ("ue", "a", "e", 1, GREAT - 1)
        self.assertIs(can_be_kept((wheels, ties + more[:3] + (off,))), False)
        self.assertEqual(least_bad((wheels, ties + more[:3] + (off,))), (("ta", 1), ("ue", 1), ("te", -1)))
        ring = tuple((name, end, names[at + 1], 1, 0) for at, (name, end) in enumerate(zip("ijklmno", names)))
        round_trip = ring + (("p", "h", "", 1, 0), ("q", "", "a", GREAT, 0))
        self.assertEqual(len(all_rings((wheels, round_trip))), 1)
        self.assertIs(can_be_kept((wheels, round_trip)), False)
        closed = round_trip[:-1] + (("q", "", "a", -8, 0),)
        self.assertIs(can_be_kept((wheels, closed)), True)
        self.assertEqual(ring_sum((wheels, round_trip), all_rings((wheels, round_trip))[0]), GREAT + 8)


    def test_great_kept_lots(self):
        names = "abcdefgh"
        wheels = tuple((name, GREAT, 4) for name in names)
        pairs = [("", "a"), *zip(names, names[1:])]
        row = tuple(("k" + other, one, other, -GREAT, GREAT) for one, other in pairs)
        self.assertEqual(kept_lots((wheels, row)), [tuple(saying[0] for saying in row)])
        doubled = tuple(sorted([*row[:4], *[("l" + other, one, other, 1, GREAT) for one, other in pairs[:4]]]))
        lots = kept_lots((wheels, doubled))
        self.assertEqual(len(lots), 16)
        self.assertEqual((lots[0], lots[-1]), (("ka", "kb", "kc", "kd"), ("la", "lb", "lc", "ld")))
        self.assertEqual(lots, sorted(lots))


class GoneThrough(unittest.TestCase):
    def check_rings(self, mill):
        rings = every_ring(mill)
        bad = [ring for ring in rings if is_bad(mill, ring)]
        self.assertEqual(all_rings(mill), rings)
        for ring in rings:
            self.assertIs(is_ring(mill, ring), True)
            self.assertEqual((ring_sum(mill, ring), ring_divisor(mill, ring)), sum_and_divisor(mill, ring))
            self.assertIs(is_bad_ring(mill, ring), ring in bad)
        for name, _, _, _, _ in mill[1]:
            told = [ring for ring in rings if name in dict(ring)]
            self.assertEqual(rings_of(mill, name), told)
        self.assertIs(can_be_kept(mill), not bad)
        self.assertEqual(least_bad(mill), min(bad, key=lambda ring: (len(ring), ring), default=None))
        self.assertIs(bad_ring(mill) in bad if bad else bad_ring(mill) is None, True)

    def test_samples(self):
        for mill in (*MILLS, MILL, WRONG, TWO, EDGES):
            self.check_rings(mill)

    def test_small_mills(self):
        for mill in small_mills(random.Random(5), 60, 3, 5, DIALS, range(-2, 3)):
            self.check_rings(mill)
        for mill in small_mills(random.Random(6), 20, 2, 5, (0, 2, 4, GREAT), (0, 2, 4)):
            self.check_rings(mill)

    def test_settings_gone_through(self):
        kept = []
        for mill in small_mills(random.Random(7), 60, 3, 4, (0, 1, 2, 3, 4), range(-1, 3)):
            kept.append(can_be_kept(mill))
            self.assertIs(kept[-1], some_setting(mill) is not None, mill)
        self.assertEqual(set(kept), {True, False})

    def test_kept_lots_by_settings(self):
        for mill in small_mills(random.Random(8), 25, 2, 5, (0, 2, 3, 4), range(-1, 3)):
            names = [saying[0] for saying in mill[1]]
            lots = []
            for part in parts_of(names):
                alone = (mill[0], tuple(saying for saying in mill[1] if saying[0] in part))
                if some_setting(alone) is not None:
                    lots.append(part)
            most = [lot for lot in lots if not any(set(lot) < set(other) for other in lots)]
            self.assertEqual(kept_lots(mill), sorted(most), mill)


if __name__ == "__main__":
    unittest.main()
