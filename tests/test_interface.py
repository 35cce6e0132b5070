"""The interface: all names, arguments and what may be left out, as the document lists them; and point [2]."""

import copy
import importlib
import inspect
import unittest

NONE = inspect.Parameter.empty
SHELF = (("size", 4), ("way", "last"))
FUNCTIONS = {
    "ways": {"is_whole": ("thing",), "is_room": ("thing",), "is_lay": ("thing", "size", "way"),
             "asked": ("lay", "room", "way")},
    "programs": {"look_at_program": ("thing",), "reach": ("program",), "rooms_of": ("program",)},
    "webs": {"look_at_web": ("thing",), "web_rooms": ("web",), "met_rows": ("web",)},
    "making": {"web_of": ("program",)},
    "runs": {"is_run": ("web", "thing"), "along": ("web", "run", "shelf")},
    "leasts": {"least_sets": ("web", "room"), "lets_least": ("web", "room", "thing")},
    "greatests": {"greatest_sets": ("web", "room"), "lets_greatest": ("web", "room", "thing")},
    "sure": {"numbers": ("web", "row", "room"), "sure": ("web", "row", "room", ("size", 4)),
             "lets_sure": ("web", "row", "room", "thing", ("size", 4))},
    "ages": {"ages": ("web", ("size", 4)), "lets_ages": ("web", "thing", ("size", 4))},
    "lays": {"lays_many": ("web", *SHELF), "stands": ("web", *SHELF), "lets_stands": ("web", "thing", *SHELF)},
    "settled": {"settled": ("web", "row", "room", *SHELF), "lets_settled": ("web", "row", "room", "thing", *SHELF)},
    "greater": {"greater": ("web", "lesser", "size", ("way", "first")),
                "lets_greater": ("web", "lesser", "size", "thing", ("way", "first"))},
    "costs": {"is_ending": ("web",), "lets_costs": ("web", "thing", *SHELF, ("near", 1), ("far", 10)),
              "told_cost": ("paper",)},
    "dearest": {"dearest": ("web", *SHELF, ("near", 1), ("far", 10))},
    "changes": {"put_ahead": ("web", "row", "room"), "turned_by": ("web", "row", "room", *SHELF),
                "called": ("web", "names"), "ordered": ("web", "order"), "joined": ("web", "other")},
    "texts": {"shown_program": ("program",), "shown_web": ("web",), "read_program": ("text",), "read_web": ("text",)},
}
CLASSES = {
    "shelves": ("Shelf", (*SHELF, ("slots", None), ("bits", None)),
                {"ask": ("room",), "size": (), "way": (), "lay": (), "holds": ("thing",), "counts": (), "twin": (),
                 "__eq__": None, "__len__": (), "__str__": (), "__repr__": ()}),
    "walks": ("Walk", ("web", "shelf"),
              {"step": (("room", None), ("to", None)), "undo": (), "at": (), "run": (), "counts": (), "shelf": (),
               "twin": (), "__eq__": None, "__len__": ()}),
    "keeper": ("Keeper", ("web", *SHELF),
               {"put": ("row", "room"), "grow": ("size",), "change": ("web",), "undo": (), "web": (), "size": (),
                "way": (), "word": ("row", "room"), "words": (), "counts": (), "twin": (), "__eq__": None,
                "__len__": ()}),
    "desk": ("Desk", (), {"say": ("row",)}),
}
# A web, and for each function that is asked twice what it is handed in.
WEB = [((1,), (1, 2)), ((2, 5), (3,)), ((), (3,)), ((1,), ()), ((5,), (0, 4))]
PROGRAM = [("a", ("then", (("ask", (1, 2)), ("call", "b")))), ("b", ("round", 0, None, ("ask", (3,))))]


def handed_in(name, arguments):
    """Things that fit these arguments."""
    fits = {"thing": {"look_at_program": PROGRAM, "look_at_web": WEB}.get(name, [[], []]), "size": 2, "way": "first",
            "lay": ((1, -1), ()), "room": 1, "program": PROGRAM, "web": WEB, "run": [(0, 1), (1, 5)], "row": 3,
            "lesser": 1, "near": 1, "far": 10, "paper": [[(((1,), ()), 4)]], "names": [(1, 2), (2, 1), (5, 9)],
            "order": [0, 4, 3, 2, 1], "other": WEB, "text": "1 > -" if name == "read_web" else "a rest"}
    return {one: copy.deepcopy(fits[one]) for one in arguments}


def spoiled(thing):
    """Change all lists and dicts within a thing."""
    for one in thing if isinstance(thing, (list, tuple)) else []:
        spoiled(one)
    if isinstance(thing, (list, dict)):
        thing.clear()


class TestInterface(unittest.TestCase):

    def told(self, function, first=0):
        """The names of all arguments of a function, with what stands where they are left out."""
        parameters = list(inspect.signature(function).parameters.values())[first:]
        for one in parameters:
            self.assertEqual(one.kind, inspect.Parameter.POSITIONAL_OR_KEYWORD)
        return tuple(one.name if one.default is NONE else (one.name, one.default) for one in parameters)

    def test_functions(self):
        for module, functions in FUNCTIONS.items():
            for name, must in functions.items():
                function = vars(importlib.import_module(f"surehand.{module}"))[name]
                self.assertEqual(self.told(function), must, name)
                self.assertEqual(function.__module__, f"surehand.{module}")

    def test_classes(self):
        for module, (name, made_of, methods) in CLASSES.items():
            there = vars(importlib.import_module(f"surehand.{module}"))[name]
            self.assertEqual(self.told(there), made_of, name)
            for method, must in methods.items():
                self.assertIn(method, vars(there), f"{name}.{method} must stand in the class itself")
                if must is not None:
                    self.assertEqual(self.told(vars(there)[method], 1), must, f"{name}.{method}")

    def test_asked_twice_and_by_names_or_places(self):
        shelves = importlib.import_module("surehand.shelves")
        for module, functions in FUNCTIONS.items():
            for name, arguments in functions.items():
                function = vars(importlib.import_module(f"surehand.{module}"))[name]
                names = [one if isinstance(one, str) else one[0] for one in arguments]
                given = handed_in(name, [one for one in names if one != "shelf"])
                before = copy.deepcopy(given)
                if "shelf" in names:
                    given["shelf"] = shelves.Shelf(2)
                with self.subTest(name):
                    must = copy.deepcopy(function(*[given[one] for one in names]))
                    spoiled(function(**dict(reversed(given.items()))))
                    self.assertEqual(function(**given), must)
                    given.pop("shelf", None)
                    self.assertEqual(given, before)


if __name__ == "__main__":
    unittest.main()
