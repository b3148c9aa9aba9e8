"""Runs all tests of a folder by unittest, and tells how many passed."""

import os
import sys
import unittest

sys.dont_write_bytecode = True


def main():
    folder = os.path.abspath(sys.argv[1])
    # The folder of this file is no place to import from, unless its own tests are run.
    sys.path[0] = os.path.dirname(os.path.dirname(os.path.abspath(__file__)))
    suite = unittest.defaultTestLoader.discover(folder, pattern="test_*.py", top_level_dir=folder)
    result = unittest.TextTestRunner(stream=sys.stdout, verbosity=1).run(suite)
    failed = len(result.failures) + len(result.errors) + len(result.unexpectedSuccesses)
    skipped = len(result.skipped)
    print(f"{result.testsRun - failed - skipped} passed, {failed} failed, {skipped} skipped")
    return 0 if failed == 0 and result.testsRun > 0 else 1


if __name__ == "__main__":
    sys.exit(main())
