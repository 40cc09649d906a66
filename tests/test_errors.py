import ast
import pathlib
import unittest

import wholecommits.errors
from wholecommits.errors import StoreError
from tests.things import nested, things

PLAIN = """Ended BadDisk NoBlock NoContent NothingWaits Stopped NoRecord LogFull NoPage NoItems NoRoom NoNote TooLarge
Over NoSpot NoMark NotThere NoCommit NoChanges NoSnapshot NoKey NoWorth NoNumber NotOpen BadSeen BadWrites NotRemembered
NoIndex NoOrder NotSerial NoSnapshots NoVersion NotAsked NoAnswer NoState NoLine InUse NoLines""".split()
FIELDS = {"Refused": "ring", "BadDealing": "part", "NoPlay": "part", "BadHistory": "index", "NoVersions": "index",
          "TooMany": "most", "BadText": "line", "BadProgram": "place", "NoName": "name"}


def error_class(name):
    return getattr(wholecommits.errors, name)


class Errors(unittest.TestCase):

    def test_there_are_forty_seven(self):
        self.assertEqual(len(PLAIN) + len(FIELDS), 47)
        found = [name for name, thing in vars(wholecommits.errors).items() if isinstance(thing, type)]
        self.assertEqual(sorted(found), sorted([*PLAIN, *FIELDS, "StoreError"]))

    def test_bases_are_direct(self):
        self.assertEqual(StoreError.__bases__, (ValueError,))
        for name in [*PLAIN, *FIELDS]:
            with self.subTest(name=name):
                self.assertEqual(error_class(name).__bases__, (StoreError,))
                self.assertEqual(error_class(name).__name__, name)

    def test_none_derives_from_another(self):
        for one in [*PLAIN, *FIELDS]:
            for other in [*PLAIN, *FIELDS]:
                self.assertEqual(issubclass(error_class(one), error_class(other)), one == other)

    def test_all_are_defined_in_their_file(self):
        tree = ast.parse(pathlib.Path(wholecommits.errors.__file__).read_text())
        defined = [node.name for node in tree.body if isinstance(node, ast.ClassDef)]
        self.assertEqual(sorted(defined), sorted([*PLAIN, *FIELDS, "StoreError"]))

    def test_plain_ones_are_made_with_nothing(self):
        for name in [*PLAIN, "StoreError"]:
            with self.subTest(name=name):
                error = error_class(name)()
                self.assertEqual(vars(error), {})
                with self.assertRaises(error_class(name)):
                    raise error

    def test_fields_are_kept_as_they_are(self):
        passed = [*things(), [1, 2], (1, 2), None, True, nested(40, lambda inner: [inner], [])]
        for name, field in FIELDS.items():
            for thing in passed:
                error = error_class(name)(thing)
                self.assertIs(getattr(error, field), thing)
                self.assertEqual(list(vars(error)), [field])

    def test_fields_are_not_copied(self):
        held = [1]
        error = error_class("Refused")(held)
        held.append(2)
        self.assertEqual(error.ring, [1, 2])

    def test_fields_are_needed(self):
        for name in FIELDS:
            self.assertRaises(TypeError, error_class(name))
            self.assertRaises(TypeError, error_class(name), 1, 2)

    def test_they_are_caught_as_what_they_are(self):
        for name, field in FIELDS.items():
            try:
                raise error_class(name)((0, 1))
            except ValueError as error:
                self.assertIsInstance(error, StoreError)
                self.assertEqual(getattr(error, field), (0, 1))


if __name__ == "__main__":
    unittest.main()
