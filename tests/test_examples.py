"""Each example of shared/DOC.md, and those of README.md."""

import ast
import doctest
import pathlib
import unittest

from leastgates.errors import GatesError

ROOT = pathlib.Path(__file__).resolve().parent.parent
DOC = ROOT.parent / "shared" / "DOC.md"


def examples():
    """Triples of a module, the lines behind >>> and the told answer."""
    found = []
    name, rows = "", []
    for line in DOC.read_text(encoding="utf-8").split("\n"):
        if line.startswith("## "):
            name = line[3:]
        if line.startswith(">>> "):
            rows.append(line[4:])
        elif rows and line:
            found.append((name, rows, line))
            rows = []
        elif rows:
            raise AssertionError(f"an example without an answer under {name}")
    return found


def answer(rows):
    """What the last row gives, as the document tells it."""
    names = {}
    try:
        exec("\n".join(rows[:-1]), names)
        return repr(eval(rows[-1], names))
    except GatesError as error:
        fields = ", ".join(f"{name}={value!r}" for name, value in vars(error).items())
        return f"raises {type(error).__name__}({fields})"


def same(told, found):
    if told.startswith("raises "):
        return told == found
    return not found.startswith("raises ") and ast.literal_eval(told) == ast.literal_eval(found)


@unittest.skipUnless(DOC.is_file(), "shared/DOC.md is not here")
class Examples(unittest.TestCase):
    def test_each_example(self):
        found = examples()
        self.assertGreaterEqual(len(found), 33)
        for name, rows, told in found:
            self.assertTrue((ROOT / name).is_file(), name)
            with self.subTest(module=name, rows=rows):
                self.assertTrue(same(told, answer(rows)), answer(rows))


class Readme(unittest.TestCase):
    def test_each_example(self):
        found = doctest.testfile(str(ROOT / "README.md"), module_relative=False)
        self.assertEqual(found.failed, 0)
        self.assertGreaterEqual(found.attempted, 15)


if __name__ == "__main__":
    unittest.main()
