"""What holds of a parameter called `thing`: any value is answered, True for just those described."""

import unittest

from tests.brute import every_ring, is_bad, ought_begins, ought_mill, ought_setting
from tests.samples import BEGINS, EDGES, EMPTY, FURTHER, MILL, MILLS, ODD, SQUARE, TWO, WRONG, changed, listed, nested
from wheelmarks.mills import is_begins, is_mill, is_setting
from wheelmarks.rings import is_bad_ring, is_ring


class Things(unittest.TestCase):
    def check(self, function, ought, things):
        told = {True: 0, False: 0}
        for thing in things:
            # The representation, as True equals 1 and can not be told from it by ==.
            right = ought(thing)
            self.assertIs(function(thing), right, repr(thing)[:200])
            told[right] += 1
        return told

    def test_is_mill(self):
        for mill in (WRONG, EMPTY, TWO, EDGES):
            told = self.check(is_mill, ought_mill, changed(mill))
            self.assertTrue(told[True] and told[False])

    def test_is_begins_and_is_setting(self):
        for mill, begins in ((MILL, BEGINS), (MILL, FURTHER), (EMPTY, ()), (TWO, (("a", 3),))):
            things = list(changed(begins))
            self.check(lambda thing: is_begins(mill, thing), lambda thing: ought_begins(mill, thing), things)
            self.check(lambda thing: is_setting(mill, thing), lambda thing: ought_setting(mill, thing), things)
            self.check(lambda thing: is_begins(listed(mill), thing), lambda thing: ought_begins(mill, thing), things)

    def test_is_ring_and_is_bad_ring(self):
        for mill in (WRONG, TWO, SQUARE):
            rings = every_ring(mill)
            right = {repr(ring) for ring in rings}
            bad = {repr(ring) for ring in rings if is_bad(mill, ring)}
            for ring in rings:
                things = list(changed(ring))
                self.check(lambda thing: is_ring(mill, thing), lambda thing: repr(thing) in right, things)
                self.check(lambda thing: is_bad_ring(mill, thing), lambda thing: repr(thing) in bad, things)

    def test_odd_things(self):
        for thing in (*ODD, nested(12), [nested(11)], (nested(11), nested(11)), "x" * 1000, ((),) * 1000):
            for mill in MILLS:
                for function in (is_begins, is_setting, is_ring, is_bad_ring):
                    right = thing == () and mill == EMPTY and function in (is_begins, is_setting)
                    self.assertIs(function(mill, thing), right, repr(thing)[:80])
            self.assertIs(is_mill(thing), thing == EMPTY, repr(thing)[:80])

    def test_lists_are_no_tuples(self):
        self.assertIs(is_mill(listed(MILL)), False)
        self.assertIs(is_mill([*MILL]), False)
        self.assertIs(is_setting(MILL, listed(BEGINS)), False)
        self.assertIs(is_begins(MILL, [*BEGINS]), False)


if __name__ == "__main__":
    unittest.main()
