"""Each example of the document runs just as the document shows it."""

import importlib
import unittest

from tests.examples import EXAMPLES

# The points of the document, and the file that each of them tells of.
POINTS = dict(zip(range(4, 22), (
    "mills rings sures settings covers meets rules lean seen asks wrong bridges hands sheets judge texts board desk"
).split()))


def steps_of(text):
    """Pairs of what is typed and what is shown."""
    steps = []
    for line in text.strip("\n").split("\n"):
        if line.startswith(">>> "):
            steps.append([line[4:], []])
        else:
            steps[-1][1].append(line)
    return [(typed, "\n".join(shown)) for typed, shown in steps]


def is_told(typed):
    """Whether something is shown behind it: it is an expression, no assignment."""
    try:
        compile(typed, "example", "eval")
    except SyntaxError:
        return False
    return True


def error_text(error):
    told = ", ".join(f"{name}={value!r}" for name, value in vars(error).items())
    return f"raises {type(error).__name__}({told})"


class Examples(unittest.TestCase):
    maxDiff = None

    def test_all(self):
        # Names of one point are used in later ones, too, so all are run in one go.
        names = {}
        for point, name in POINTS.items():
            module = importlib.import_module(f"wheelmarks.{name}")
            names.update({word: thing for word, thing in vars(module).items() if not word.startswith("_")
                          and getattr(thing, "__module__", None) == module.__name__})
        self.assertEqual(list(EXAMPLES), list(POINTS))
        many = 0
        for point, text in EXAMPLES.items():
            for typed, shown in steps_of(text):
                many += 1
                with self.subTest(point=point, typed=typed):
                    self.run_one(names, typed, shown)
        self.assertEqual(many, 149)

    def run_one(self, names, typed, shown):
        if not is_told(typed):
            self.assertEqual(shown, "")
            exec(typed, names)
        elif shown.startswith("raises "):
            with self.assertRaises(Exception) as caught:
                eval(typed, names)
            self.assertEqual(error_text(caught.exception), shown)
        else:
            self.assertEqual(repr(eval(typed, names)), shown)


if __name__ == "__main__":
    unittest.main()
