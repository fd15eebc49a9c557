"""Runs the tests of the project and those under ../shared/tests: python3 -m tests.run_all"""

import sys
import unittest
from pathlib import Path

ROOT = Path(__file__).resolve().parent.parent
SHARED = ROOT.parent / "shared" / "tests"


def found_tests():
    """Return the suite of all tests; the shared folder may be missing or hold no test."""
    suite = unittest.TestSuite()
    suite.addTests(unittest.TestLoader().discover(str(ROOT / "tests"), "test_*.py", str(ROOT)))
    if SHARED.is_dir() and any(SHARED.glob("test_*.py")):
        suite.addTests(unittest.TestLoader().discover(str(SHARED), "test_*.py", str(SHARED)))
    return suite


def failed_tests(result):
    """Return how many different tests failed; one test can fail in several of its subtests."""
    faults = [test for test, _ in result.failures + result.errors] + result.unexpectedSuccesses
    return len({getattr(test, "test_case", test).id() for test in faults})


def main():
    sys.path.insert(0, str(ROOT))
    result = unittest.TextTestRunner(stream=sys.stdout, verbosity=1).run(found_tests())
    failed = failed_tests(result)
    skipped = len(result.skipped)
    passed = max(0, result.testsRun - failed - skipped)
    print(f"{passed} passed, {failed} failed, {skipped} skipped")
    return 0 if failed == 0 and passed > 0 else 1


if __name__ == "__main__":
    sys.exit(main())
