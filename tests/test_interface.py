"""The interface: every name that the document lists is there, in its module, with its arguments."""

import importlib
import inspect
import unittest

FUNCTIONS = {
    "machines": {"turned_beginnings": "word"},
    "signs": {
        "is_sign": "thing", "letter_of": "sign", "tile_of": "sign", "left_of": "rack signs", "turned_laying": "laying",
    },
    "rules": {"formed": "board laying", "check_laying": "board book rack laying"},
    "points": {"word_points": "board worths laying word", "points_of": "board worths bonus laying"},
    "crosses": {"cross_letters": "board book row column way", "hooks": "board"},
    "search": {"all_layings": "board book rack", "layings_at": "board book rack row column"},
    "best": {
        "ranked": "board book rack worths bonus leaves", "best_laying": "board book rack worths bonus leaves",
    },
}
CLASSES = {
    "machines": {"Machine": {"": "texts", "table": "", "follow": "state sign", "ends": "state", "lets_by": "text"}},
    "books": {
        "Book": {
            "": "words", "words": "", "has": "text", "put_in": "word", "take_out": "word", "machine": "", "twin": "",
        },
    },
    "boards": {
        "Board": {
            "": "rows marks begin", "at": "row column", "is_free": "", "run": "row column way", "turned": "",
            "laid": "laying",
        },
    },
    "leaves": {
        "Leaves": {"": "singles doubles", "counts": "left", "of": "rack many", "best_of": "rack many"},
    },
    "games": {
        "Game": {
            "": "board book worths bonus size racks bag", "do": "deed", "back": "", "board_now": "", "racks_now": "",
            "bag_now": "", "points_now": "", "turn": "", "is_over": "", "twin": "",
        },
    },
    "desk": {"Desk": {"": "game leaves", "say": "row", "go_through": "text"}},
}


def module_of(name):
    return importlib.import_module("letterrack." + name)


class TestInterface(unittest.TestCase):
    def check_arguments(self, called, names):
        given = inspect.signature(called).parameters.values()
        self.assertEqual([one.name for one in given], names)
        self.assertEqual([one.default for one in given], [inspect.Parameter.empty] * len(names))

    def test_functions(self):
        for name, functions in FUNCTIONS.items():
            for function, arguments in functions.items():
                with self.subTest(module=name, function=function):
                    found = getattr(module_of(name), function)
                    self.assertTrue(inspect.isfunction(found))
                    self.assertEqual(found.__module__, "letterrack." + name)
                    self.check_arguments(found, arguments.split())

    def test_classes(self):
        for name, classes in CLASSES.items():
            for kind, methods in classes.items():
                found = getattr(module_of(name), kind)
                self.assertTrue(inspect.isclass(found))
                self.assertEqual(found.__module__, "letterrack." + name)
                for method, arguments in methods.items():
                    with self.subTest(kind=kind, method=method):
                        if method == "":
                            self.check_arguments(found, arguments.split())
                        else:
                            self.check_arguments(getattr(found, method), ["self"] + arguments.split())


if __name__ == "__main__":
    unittest.main()
