import itertools
import math
import random
import unittest

from tests.brute import parts_of
from tests.samples import MILL, ODD
from wheelmarks.lots import (
    all_lots, fewest_lot, fewest_to_reach, greatest_lots_of, least_lots, members, pairs_among,
)
from wheelmarks.values import all_but, is_set_of, just_these


class Lots(unittest.TestCase):
    def test_members(self):
        self.assertEqual([members("abc", lot) for lot in (0, 1, 5, 6)], [(), ("a",), ("a", "c"), ("b", "c")])

    def test_all_lots_and_pairs(self):
        for things in ("", "a", "abcd"):
            self.assertEqual(all_lots(things), [members(things, lot) for lot in range(2 ** len(things))])
            self.assertEqual(sorted(all_lots(things)), sorted(parts_of(things)))
            self.assertEqual(pairs_among(things), list(itertools.combinations(things, 2)))

    def test_sets_of_names(self):
        right = {repr(part) for part in parts_of(("", "a", "b"))}
        for thing in (*ODD, *parts_of(("", "a", "b")), ("b", "a"), ("a", "a"), ["a", "b"], ("a", ["b"]), ("a", "c")):
            self.assertIs(is_set_of(thing, ["", "a", "b"]), repr(thing) in right)

    def test_some_of_the_sayings(self):
        self.assertEqual(just_these(MILL, ("p", "r", "z")), (MILL[0], [MILL[1][0], MILL[1][2]]))
        self.assertEqual(all_but(MILL, ("p", "r", "z")), (MILL[0], [MILL[1][1]]))

    def test_least_and_greatest(self):
        source = random.Random(21)
        for _ in range(60):
            seeds = [source.randrange(16) for _ in range(source.randrange(4))]
            does = [any(lot & seed == seed for seed in seeds) for lot in range(16)]
            sets = [members("abcd", lot) for lot in range(16) if does[lot]]
            least = [one for one in sets if not any(set(other) < set(one) for other in sets)]
            self.assertEqual(least_lots("abcd", does), sorted(least))
            self.assertEqual(fewest_lot(sorted(least)), min(least, key=lambda one: (len(one), one), default=None))
            fails = [members("abcd", lot) for lot in range(16) if not does[lot]]
            most = [one for one in fails if not any(set(one) < set(other) for other in fails)]
            self.assertEqual(greatest_lots_of("abcd", [not so for so in does]), sorted(most))

    def test_fewest_to_reach(self):
        source = random.Random(22)
        for _ in range(200):
            numbers = [source.choice((0, 1, 2, 3, 4, 6, 9, 10, 12)) for _ in range(source.randrange(6))]
            goal = math.lcm(*numbers)
            right = [part for part in parts_of(range(len(numbers))) if math.lcm(*[numbers[at] for at in part]) == goal]
            self.assertEqual(fewest_to_reach(numbers, goal), min(right, key=lambda part: (len(part), part)))
        self.assertIsNone(fewest_to_reach([2, 3], 12))
        self.assertEqual(fewest_to_reach([], 1), ())

    def test_many_numbers(self):
        primes = [2, 3, 5, 7, 11, 13, 17, 19]
        pairs = [one * other for one, other in itertools.combinations(primes, 2)]
        self.assertEqual(fewest_to_reach(pairs, math.prod(primes)), (0, 13, 22, 27))


if __name__ == "__main__":
    unittest.main()
