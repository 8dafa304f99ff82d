"""Runs the tests of some folders in one go, and closes with their count."""

import pathlib
import sys
import unittest

ROOT = pathlib.Path(__file__).resolve().parent.parent


def tests_of(folder):
    """All tests of the files test_*.py in a folder and in those below it."""
    suite = unittest.TestSuite()
    places = sorted({path.parent for path in folder.rglob("test_*.py")})
    for place in places:
        # A folder below another one is asked for by that one already if it is a package.
        if place == folder or not (place / "__init__.py").exists():
            top = ROOT if place.is_relative_to(ROOT) else place
            suite.addTests(unittest.TestLoader().discover(str(place), "test_*.py", str(top)))
    return suite


def main(folders):
    sys.path.insert(0, str(ROOT))
    suite = unittest.TestSuite()
    for folder in folders:
        found = tests_of((ROOT / folder).resolve())
        print(f"{folder}: {found.countTestCases()} tests", flush=True)
        suite.addTests(found)
    result = unittest.TextTestRunner(stream=sys.stdout).run(suite)
    wrong = [getattr(test, "test_case", test) for test, _ in result.failures + result.errors]
    failed = len({test.id() for test in wrong + result.unexpectedSuccesses})
    passed = result.testsRun - failed - len(result.skipped)
    print(f"{passed} passed, {failed} failed, {len(result.skipped)} skipped")
    return 0 if result.wasSuccessful() and passed > 0 else 1


if __name__ == "__main__":
    sys.exit(main(sys.argv[1:]))
