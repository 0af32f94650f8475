import itertools
import math
import random
import unittest

from tests.brute import keeps, small_mills, window
from tests.samples import EDGES, EMPTY, GREAT, MILL, WRONG
from wheelmarks.errors import NoSetting
from wheelmarks.lates import class_of, class_sum, common_class, flat, inverse, need_table, sure_table, told_too
from wheelmarks.values import is_multiple, tupled

REACH = range(-40, 41)


def has(told, number):
    late, dial = told
    return number == late if dial == 0 else (number - late) % dial == 0


class Classes(unittest.TestCase):
    def test_class_of(self):
        self.assertEqual((class_of(-7, 0), class_of(-7, 1), class_of(-7, 5)), ((-7, 0), (0, 1), (3, 5)))

    def test_multiples_of_0(self):
        self.assertEqual([is_multiple(number, 0) for number in (0, 1, -GREAT)], [True, False, False])
        self.assertEqual([is_multiple(number, 3) for number in (0, 1, -3)], [True, False, True])

    def test_inverse(self):
        for dial in range(1, 30):
            for number in range(-30, 30):
                if math.gcd(number, dial) == 1:
                    self.assertEqual(number * inverse(number, dial) % dial, 1 % dial)
                    self.assertIn(inverse(number, dial), range(dial))

    def test_common_class(self):
        all_classes = [(late, dial) for dial in range(7) for late in (range(dial) if dial else (-2, 0, 3))]
        for first, second in itertools.product(all_classes, repeat=2):
            told = common_class(first, second)
            both = [number for number in REACH if has(first, number) and has(second, number)]
            self.assertEqual([number for number in REACH if told is not None and has(told, number)], both)
            self.assertTrue(told is None or told == class_of(*told))

    def test_class_sum(self):
        self.assertEqual(class_sum((3, 12), (2, 4)), (1, 4))
        self.assertEqual(class_sum((3, 0), (-5, 0)), (-2, 0))
        self.assertEqual(class_sum((3, 0), (4, 6)), (1, 6))

    def test_tupled(self):
        self.assertEqual(tupled([1, ["a", ([], None)], "bc"]), (1, ("a", ((), None)), "bc"))


class Table(unittest.TestCase):
    def test_of_samples(self):
        table = sure_table(MILL)
        self.assertEqual((table["a", "c"], table["c", "a"], table["", "b"]), ((5, 12), (7, 12), (0, 1)))
        self.assertEqual(sure_table(EMPTY), {("", ""): (0, 0)})
        self.assertIsNone(sure_table(WRONG))
        self.assertEqual(sure_table(EDGES)["", "qq"], (1, GREAT))

    def test_needed(self):
        self.assertEqual(need_table(MILL), sure_table(MILL))
        with self.assertRaises(NoSetting):
            need_table(WRONG)

    def test_told_one_behind_another(self):
        told = set()
        for mill in small_mills(random.Random(10), 80, 3, 5, (0, 1, 2, 3, 4, 6), range(-2, 3)):
            ends = ["", "a", "b", "c"]
            table = sure_table((mill[0], ()))
            for at, (_, one, other, late, dial) in enumerate(mill[1]):
                before = dict(table)
                narrowed = told_too(ends, table, one, other, class_of(late, dial))
                self.assertEqual(table, before)
                self.assertEqual(narrowed, sure_table((mill[0], mill[1][:at + 1])), mill)
                told.add(narrowed is None)
                if narrowed is None:
                    break
                table = narrowed
        self.assertEqual(told, {True, False})

    def test_flat(self):
        level = (MILL[0], tuple((name, one, other, 0, dial) for name, one, other, _, dial in MILL[1]))
        self.assertEqual(flat(sure_table(MILL)), sure_table(level))

    def test_settings_gone_through(self):
        for mill in small_mills(random.Random(9), 60, 2, 4, (0, 1, 2, 3, 4), range(-2, 3)):
            found = []
            for begins in itertools.product(window(mill), repeat=2):
                setting = (("", 0), *zip("ab", begins))
                if all(keeps(setting[1:], saying) for saying in mill[1]):
                    found.append(dict(setting))
            table = sure_table(mill)
            self.assertIs(table is None, found == [], mill)
            for one, other in table or ():
                lates = {begins[other] - begins[one] for begins in found}
                self.assertTrue(all(has(table[one, other], late) for late in lates), mill)


if __name__ == "__main__":
    unittest.main()
