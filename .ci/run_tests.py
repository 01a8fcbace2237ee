"""Run all files test_*.py under the folder that is named; exit with 1 if a test fails or none is found."""

import sys
import unittest
from pathlib import Path

ROOT = Path(__file__).resolve().parent.parent


def suite_of(folder):
    """A suite of all test files under a folder, whatever folders they stand in."""
    suite = unittest.TestSuite()
    for path in sorted(folder.rglob("test_*.py")):
        # Each file has a loader of its own: a loader remembers the folder that it began with.
        suite.addTests(unittest.TestLoader().discover(str(path.parent), pattern=path.name))
        sys.modules.pop(path.stem, None)
    return suite


def main():
    sys.path.insert(0, str(ROOT))
    result = unittest.TextTestRunner(stream=sys.stdout, verbosity=1).run(suite_of(Path(sys.argv[1]).resolve()))
    bad = len(result.failures) + len(result.errors) + len(result.unexpectedSuccesses)
    print(f"{result.testsRun - bad} passed, {bad} failed", flush=True)
    sys.exit(0 if result.wasSuccessful() and result.testsRun > 0 else 1)


main()
