"""Run every file test_*.py below the folders that are named, and fail if a test fails.

A folder that does not exist, or holds no test, is passed over; but some test must run.
"""

import os
import sys
import unittest


def test_folders(root):
    """Return the folders below a root that hold a file test_*.py."""
    return sorted(
        folder for folder, _, files in os.walk(root)
        if any(name.startswith("test_") and name.endswith(".py") for name in files)
    )


def forget_modules(path):
    """Drop the modules of a folder, so that one of another folder with an equal name is read anew."""
    for name, module in list(sys.modules.items()):
        if (getattr(module, "__file__", None) or "").startswith(path + os.sep):
            del sys.modules[name]


def run_folder(folder):
    """Run the tests of one folder; return how many passed, failed and were skipped."""
    path = os.path.abspath(folder)
    suite = unittest.TestLoader().discover(path, pattern="test_*.py", top_level_dir=path)
    result = unittest.TextTestRunner(stream=sys.stdout, verbosity=1).run(suite)
    failed = len(result.failures) + len(result.errors) + len(result.unexpectedSuccesses)
    skipped = len(result.skipped)
    forget_modules(path)
    sys.path.remove(path)
    return max(result.testsRun - failed - skipped, 0), failed, skipped


def main(roots):
    sys.path.insert(0, os.path.abspath("."))
    totals = [0, 0, 0]
    for root in roots:
        for folder in test_folders(root):
            print(f"== {folder} (Python {sys.version.split()[0]})", flush=True)
            totals = [one + other for one, other in zip(totals, run_folder(folder))]
    passed, failed, skipped = totals
    print(f"{passed} passed, {failed} failed, {skipped} skipped", flush=True)
    return 1 if failed or not passed else 0


if __name__ == "__main__":
    sys.exit(main(sys.argv[1:]))
