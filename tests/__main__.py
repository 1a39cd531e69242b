"""Runs all tests of the project: python3 -m tests."""

import pathlib
import sys
import unittest

FOLDER = pathlib.Path(__file__).resolve().parent


def main():
    """0 if each test passes; the last line tells how many do."""
    suite = unittest.defaultTestLoader.discover(str(FOLDER), top_level_dir=str(FOLDER.parent))
    result = unittest.TextTestRunner(stream=sys.stdout).run(suite)
    bad = {getattr(case, "test_case", case).id() for case, told in result.failures + result.errors}
    bad |= {case.id() for case in result.unexpectedSuccesses}
    print(f"{result.testsRun - len(bad)} passed, {len(bad)} failed")
    return 0 if result.wasSuccessful() and result.testsRun > 0 else 1


if __name__ == "__main__":
    sys.exit(main())
