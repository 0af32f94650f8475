import inspect
import unittest

from wheelmarks import errors

LOOKUPS = {
    "NoWheel": ("name",), "NoSaying": ("name",), "NoReader": ("name",), "NoNumber": ("number",),
    "NoWord": ("word",), "NothingDone": (),
}
VALUES = {
    "Twice": ("name",), "NoSetting": (), "NoPaper": (), "Unfit": (), "BadText": (), "BadLine": ("number",),
}


class Errors(unittest.TestCase):
    def check_all(self, classes, base):
        for name, told in classes.items():
            kind = getattr(errors, name)
            self.assertEqual(kind.__bases__, (base,), name)
            self.assertEqual(kind.__module__, "wheelmarks.errors")
            values = [7 if word == "number" else "abc" for word in told]
            for made in (kind(*values), kind(**dict(zip(told, values)))):
                self.assertEqual([getattr(made, word) for word in told], values, name)
                with self.assertRaises(kind):
                    raise made

    def test_under_lookup_error(self):
        self.check_all(LOOKUPS, LookupError)

    def test_under_value_error(self):
        self.check_all(VALUES, ValueError)

    def test_no_others(self):
        found = [name for name, kind in vars(errors).items() if inspect.isclass(kind)]
        self.assertEqual(sorted(found), sorted([*LOOKUPS, *VALUES]))

    def test_takes_its_values_alone(self):
        for name in ("NoWheel", "NoSaying", "NoReader", "NoNumber", "NoWord", "Twice", "BadLine"):
            with self.assertRaises(TypeError):
                getattr(errors, name)()


if __name__ == "__main__":
    unittest.main()
