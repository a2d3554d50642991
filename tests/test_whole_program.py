"""Promise 14 of stage 4: what holds over the whole program ([1] to [5])."""

import copy
import inspect
import unittest
from importlib import import_module

from ringshares import errors
from ringshares.console import Console
from ringshares.desks import Desk
from ringshares.plans import Plan
from ringshares.rings import Ring
from ringshares.shelves import Shelf
from tests.fate_models import JOIN, SETTLE, WHOLE
from tests.support import APART_TEXT, NO_NAMES, PLAIN_HOSTS, PLAIN_TEXT, EqualToAll
from tests.test_interface import CLASSES, FUNCTIONS, MODULES

COPY = WHOLE[1]
TURNED_HOSTS = (("a", "r1", (2,)), ("b", "r1", (1,)), ("c", "r2", (9,)))


def new_ring():
    return Ring(12, 2, "hosts", 1, 2, "with", tuple(list(PLAIN_HOSTS)))


def new_plan():
    return Plan(new_ring(), (JOIN, COPY, SETTLE))


def new_desk():
    desk = Desk(new_ring())
    desk.promise(("able",))
    desk.do(JOIN)
    desk.do(COPY)
    return desk


def new_shelf():
    shelf = Shelf()
    shelf["now"] = new_ring()
    shelf["soon"] = new_ring().joined("d", "r2", (0,))
    shelf.wish(("soon", ("racks", 1)))
    return shelf


def new_console():
    console = Console(new_ring())
    console.desk.do(JOIN)
    return console


def of_functions():
    """Returns for each function of the interface arguments that are right, made anew."""
    ring, plan = new_ring(), new_plan()
    more = ring.joined("d", "r2", (0,))
    pair = {"one": ring, "other": more}
    host = {"ring": ring, "name": "a"}
    fall = {"ring": ring, "kind": "racks", "down": 1, "left": 1}
    step = {"ring": ring, "step": JOIN}
    return {
        "cells": {"ring": ring}, "common_cells": pair, "kept": host, "leads": host, "shares": {"ring": ring},
        "greatest": {"ring": ring}, "best_mark": host, "unlike_arcs": pair, "alien_arcs": pair, "alike": pair,
        "kin": pair, "moves": pair, "moved": pair, "bears": fall, "breach": fall,
        "wanted": {"plan": plan, "point": 10, "moment": 1},
        "holders": {"plan": plan, "point": 10, "moment": 0, "names": ("a",), "until": 3},
        "lost": {"plan": plan}, "lost_at": {"plan": plan, "point": 10}, "is_safe": {"plan": plan},
        "halted": {"plan": plan}, "is_able": {"plan": plan}, "copies": step, "change": step,
        "holds": {"plan": plan, "wish": ("like", str(more))}, "stands": {"ring": ring, "wish": ("share", "a", 9)},
        "mends": {"plan": plan, "wishes": (("safe",),), "further": ((1, WHOLE[2]), (2, ("wipe", "a")))},
        "accepts": {"claim": ("lost", str(Plan(ring, (JOIN, SETTLE)))), "certificate": (10, 0, ("b",), 2, ("a", "d"))},
        "certify": {"plan": plan, "wish": ("safe",)}, "certify_rings": pair, "certify_share": host,
    }


def of_methods():
    """Returns for each class what makes an object, and for its methods arguments that are right."""
    rules = {"write": 2, "read": 1, "pending": "plain"}
    moment = {"moment": 1}
    key = {"point": 10, "moment": 1}
    return {
        Ring: (new_ring, {
            "walk": {"point": 3}, "keepers": {"point": 3}, "joined": {"name": "d", "rack": "r2", "marks": (0, 4)},
            "left": {"name": "a"}, "ruled": rules, "read": {"text": PLAIN_TEXT},
        }),
        Plan: (new_plan, {
            "counting": moment, "coming": moment, "fallen": moment, "keepers": key, "pendings": key,
            "then": {"step": ("down", "a")}, "read": {"text": str(new_plan())},
        }),
        Desk: (new_desk, {
            "do": {"step": SETTLE}, "promise": {"wish": ("racks", 1)}, "lift": {"index": 0}, "undo": {},
            "tried": {"action": len},
        }),
        Shelf: (new_shelf, {
            "remove": {"name": "now"}, "wish": {"wish": ("kin", "now", "now")}, "lift": {"index": 0}, "undo": {},
            "tried": {"action": len},
        }),
        Console: (new_console, {"say": {"line": "do settle"}}),
    }


def condition(value):
    """Returns all that an object of the program shows, and other values as they are."""
    if isinstance(value, Console):
        return condition(value.desk)
    if isinstance(value, Desk):
        return (value.plan, value.ring, value.promises, value.changes, len(value))
    if isinstance(value, Shelf):
        return (value.names, [value[name] for name in value.names], value.wishes, value.changes, len(value))
    return value


def functions():
    """Returns the names and the functions of the interface."""
    return [(name, getattr(import_module("ringshares." + file), name)) for file, names in FUNCTIONS.items() for name in names]


class Calls(unittest.TestCase):
    def test_each_parameter_of_each_function_by_position_and_by_name(self):
        self.assertEqual(sorted(of_functions()), sorted(name for name, _ in functions()))
        for name, call in functions():
            given = of_functions()[name]
            self.assertEqual(tuple(inspect.signature(call).parameters), tuple(given))
            told = call(*given.values())
            self.assertEqual(call(**dict(reversed(given.items()))), told)
            for many in range(len(given) + 1):
                rest = dict(list(given.items())[many:])
                self.assertEqual(call(*list(given.values())[:many], **rest), told)

    def test_each_parameter_of_each_method_by_position_and_by_name(self):
        listed = {name: sorted(word for word in methods if not word.startswith("__")) for name, methods, _ in CLASSES.values()}
        for kind, (new, methods) in of_methods().items():
            self.assertEqual(sorted(methods), [word for word in listed[kind.__name__] if word != "trial"])
            for name, given in methods.items():
                told = []
                for by_position in (True, False):
                    held = new()
                    call = getattr(held, name)
                    answer = call(*given.values()) if by_position else call(**dict(reversed(given.items())))
                    told.append((answer, condition(held)))
                self.assertEqual(told[0], told[1])

    def test_each_class_by_position_and_by_name(self):
        given = {"points": 12, "factor": 2, "spread": "hosts", "write": 1, "read": 2, "pending": "with", "hosts": PLAIN_HOSTS}
        self.assertEqual(Ring(*given.values()), Ring(**dict(reversed(given.items()))))
        self.assertEqual(Plan(new_ring(), (JOIN,)), Plan(steps=(JOIN,), ring=new_ring()))
        for kind in (Desk, Console):
            self.assertEqual(condition(kind(new_ring())), condition(kind(ring=new_ring())))
        self.assertEqual(condition(Shelf()), ((), [], (), 0, 0))

    def test_no_call_changes_what_it_is_passed(self):
        for name, call in functions():
            given, kept = of_functions()[name], of_functions()[name]
            call(**given)
            self.assertEqual(given, kept)
            self.assertEqual([str(value) for value in given.values()], [str(value) for value in kept.values()])
        for new, methods in of_methods().values():
            for name, given in methods.items():
                kept = copy.deepcopy({key: value for key, value in given.items() if not callable(value)})
                getattr(new(), name)(**given)
                self.assertEqual({key: value for key, value in given.items() if not callable(value)}, kept)
        ring = new_ring()
        for held in (Desk(ring), Console(ring).desk):
            held.do(JOIN)
            held.do(SETTLE)
            self.assertEqual(str(ring), PLAIN_TEXT)

    def test_equal_arguments_return_equal_results(self):
        for name, call in functions():
            told = call(**of_functions()[name])
            for _ in range(2):
                self.assertEqual(call(**of_functions()[name]), told)
            self.assertIs(type(call(**of_functions()[name])), type(told))
        for kind, (new, methods) in of_methods().items():
            for name, given in methods.items():
                rows = []
                for _ in range(3):
                    held = new()
                    rows.append((getattr(held, name)(**given), condition(held)))
                self.assertEqual(rows[1:], rows[:2])

    def test_rings_and_plans_never_change(self):
        ring, plan = new_ring(), new_plan()
        for kind, held in ((Ring, ring), (Plan, plan)):
            text = str(held)
            for name, given in of_methods()[kind][1].items():
                getattr(held, name)(**given)
            for name in CLASSES[kind.__name__.lower() + "s"][2]:
                with self.assertRaises(AttributeError):
                    setattr(held, name, None)
            self.assertEqual(str(held), text)
        for call in (lambda: ring.__setitem__("a", 1), lambda: plan.__setitem__(0, 1)):
            self.assertRaises((AttributeError, TypeError), call)

    def test_only_sequences_that_are_tuples(self):
        def kinds(value):
            found = {type(value)}
            for part in value if isinstance(value, tuple) else ():
                found |= kinds(part)
            return found
        for name, call in functions():
            self.assertTrue(kinds(call(**of_functions()[name])) <= {tuple, int, str, bool, type(None), Plan}, name)
        for held in (new_ring(), new_plan(), new_desk(), new_shelf()):
            for word in CLASSES[{"Shelf": "shelves"}.get(type(held).__name__, type(held).__name__.lower() + "s")][2]:
                self.assertTrue(kinds(getattr(held, word)) <= {tuple, int, str, Ring, Plan}, word)


def some_errors():
    return [
        error("x") if "__init__" in vars(error) else error()
        for error in vars(errors).values() if inspect.isclass(error)
    ]


class Objects(unittest.TestCase):
    def objects(self):
        """Returns objects of all classes, no two of which are equal."""
        empty = Ring(1, 1, "hosts", 1, 1, "plain", (("a", "r", (0,)),))
        rings = [new_ring(), Ring.read(APART_TEXT), empty, new_ring().ruled(1, 1, "with"), new_ring().joined("d", "r2", (0,))]
        rings.append(Ring(12, 2, "hosts", 1, 2, "with", TURNED_HOSTS))
        rings.append(Ring(12, 2, "hosts", 1, 2, "with", PLAIN_HOSTS[::-1]))
        plans = [Plan(empty), new_plan(), Plan(new_ring()), Plan(new_ring(), (JOIN,))]
        others = [new_desk(), new_desk(), Desk(empty), new_shelf(), new_shelf(), Shelf(), new_console(), new_console()]
        return rings + plans + others + [new_desk().trial(), new_shelf().trial()] + some_errors()

    def test_every_object_is_true(self):
        for value in self.objects():
            self.assertIs(bool(value), True)

    def test_equal_only_where_the_document_says_so(self):
        held = self.objects()
        for k, one in enumerate(held):
            for at, other in enumerate(held):
                self.assertIs(one == other, k == at)
                self.assertIs(one != other, k != at)

    def test_no_object_is_equal_to_a_value_of_another_class(self):
        kinds = (Ring, Plan, Desk, Shelf, Console)
        for one in [value for value in self.objects() if isinstance(value, kinds)]:
            for value in NO_NAMES + (EqualToAll(), str(one), condition(one), type(one)):
                if not isinstance(value, kinds):
                    self.assertIs(one == value, False)
                    self.assertIs(one != value, True)

    def test_rings_and_plans_of_the_same_text_are_equal(self):
        self.assertEqual([new_ring() == new_ring(), new_plan() == new_plan()], [True, True])
        self.assertEqual([Ring.read(str(new_ring())) == new_ring(), Plan.read(str(new_plan())) == new_plan()], [True, True])


class Errors(unittest.TestCase):
    def test_each_belongs_to_one_base_class(self):
        bases = (errors.BadValue, errors.BadName, errors.NoAnswer)
        for error in [type(value) for value in some_errors()]:
            if error not in bases:
                self.assertEqual(sum(issubclass(error, base) for base in bases), 1)
                self.assertEqual(error.__bases__[0] in bases, True)
                self.assertEqual([other for other in some_errors() if isinstance(other, error)][1:], [])

    def test_each_is_defined_with_the_errors(self):
        for file in MODULES:
            for name, value in vars(import_module("ringshares." + file)).items():
                if inspect.isclass(value) and issubclass(value, Exception):
                    self.assertEqual(value.__module__, "ringshares.errors", name)


if __name__ == "__main__":
    unittest.main()
