import doctest
import pathlib

README = pathlib.Path(__file__).resolve().parent.parent / "README.md"


def load_tests(loader, tests, pattern):
    tests.addTests(doctest.DocFileSuite(str(README), module_relative=False))
    return tests
