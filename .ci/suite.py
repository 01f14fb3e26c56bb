"""Runs all tests of one folder, `python3 .ci/suite.py FOLDER TOP`, and says how many passed.

TOP is the folder from which the names of the test modules are told.
"""
import sys
import unittest


def main(folder, top):
    tests = unittest.defaultTestLoader.discover(folder, pattern="test_*.py", top_level_dir=top)
    result = unittest.TextTestRunner(verbosity=1).run(tests)
    # A test with subtests can fail more than once.
    failed = min(len(result.failures) + len(result.errors) + len(result.unexpectedSuccesses), result.testsRun)
    if not result.wasSuccessful():
        failed = max(failed, 1)
    skipped = len(result.skipped)
    sys.stderr.flush()
    print(f"{max(result.testsRun - failed - skipped, 0)} passed, {failed} failed, {skipped} skipped", flush=True)
    return 0 if result.wasSuccessful() and result.testsRun > 0 else 1


if __name__ == "__main__":
    sys.exit(main(sys.argv[1], sys.argv[2]))
