"""Runs the tests in the files test_*.py beneath the folders that are told, and counts them."""

import importlib.util
import os
import sys
import unittest


def test_files(folder):
    found = []
    for here, _, names in os.walk(os.path.abspath(folder)):
        found += [os.path.join(here, name) for name in names if name.startswith("test_") and name.endswith(".py")]
    return sorted(found)


def suite_of(number, path):
    # A module name of its own, as two folders may hold files of one name.
    folder, name = os.path.split(path)
    if folder not in sys.path:
        sys.path.append(folder)
    spec = importlib.util.spec_from_file_location(f"{name[:-3]}_{number}", path)
    module = importlib.util.module_from_spec(spec)
    sys.modules[spec.name] = module
    spec.loader.exec_module(module)
    return unittest.defaultTestLoader.loadTestsFromModule(module)


def names_of(ends):
    # A part of a test (subTest) that fails is counted with its test.
    return {getattr(test, "test_case", test).id() for test in ends}


def main(folders):
    sys.path.insert(0, os.getcwd())
    suite = unittest.TestSuite()
    for number, path in enumerate(path for folder in folders for path in test_files(folder)):
        suite.addTest(suite_of(number, path))
    result = unittest.TextTestRunner(stream=sys.stdout).run(suite)
    failed = len(names_of([test for test, _ in result.failures + result.errors] + result.unexpectedSuccesses))
    skipped = len(names_of([test for test, _ in result.skipped]))
    passed = max(0, result.testsRun - failed - skipped)
    print(f"{passed} passed, {failed} failed" + (f", {skipped} skipped" if skipped else ""))
    return 0 if passed and not failed and result.wasSuccessful() else 1


if __name__ == "__main__":
    sys.exit(main(sys.argv[1:]))
