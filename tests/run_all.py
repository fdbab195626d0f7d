"""Runs the test files of a folder: `python3 tests/run_all.py FOLDER`.

Ends with a line `N passed, N failed`; the exit code is 1 if a test failed or none ran.
"""

import os
import sys
import unittest

ROOT = os.path.dirname(os.path.dirname(os.path.abspath(__file__)))


def main(folder):
    sys.path.insert(0, ROOT)
    suite = unittest.TestLoader().discover(folder, "test_*.py", folder)
    result = unittest.TextTestRunner(verbosity=1).run(suite)
    failed = len(result.failures) + len(result.errors) + len(result.unexpectedSuccesses)
    passed = max(result.testsRun - failed, 0)
    print(f"{passed} passed, {failed} failed", flush=True)
    return 0 if result.wasSuccessful() and result.testsRun > 0 else 1


if __name__ == "__main__":
    sys.exit(main(os.path.abspath(sys.argv[1])))
