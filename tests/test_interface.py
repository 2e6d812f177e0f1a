"""The interface at the end of the document, and point 2, over all modules: names, arguments, and how they are passed."""

import copy
import importlib
import inspect
import itertools
import unittest

from nextmarks import errors
from nextmarks.attackers import Attacker
from nextmarks.devices import Device
from nextmarks.logs import Log, format_log
from nextmarks.names import named_rule
from nextmarks.session import Session
from plain import view
from samples import OTHER_KINDS, same

RULE = named_rule(2)
FAILING = ((1,), (2,), (0, 1, 2))
RINGS = (((1, "old"), (3, "old"), (3, "old"), (0, "old")),)


def device():
    made = Device(RINGS)
    made.set_header(3, 2)
    made.write(0, 1, (2, "x"))
    return made


def logged():
    """Return a log of three records, on a device of its own."""
    log = format_log(Device(RINGS), RULE)
    for letter in "xyz":
        log.append(letter)
    return log


# For each function values for its arguments, by the names that the document gives them.
FUNCTIONS = {
    "rules": {
        "is_rule": {"value": RULE}, "may_follow": {"rule": RULE, "mark": 0, "other": 1},
        "called": {"rule": ((0,), (0, 1)), "order": (1, 0)}, "cut_down": {"rule": RULE, "marks": (0, 1)}},
    "names": {
        "named_rule": {"values": 3}, "shows_names": {"rule": RULE, "value": ((0, 0), (0, 1), (1, 0), (1, 1))},
        "names_of": {"rule": RULE}, "fewest_marks": {"mirrors": 2}},
    "games": {
        "fitting": {"rule": RULE, "mark": 1, "lying": (3,)}, "rounds": {"rule": FAILING, "mirrors": 1},
        "core": {"rule": RULE, "mirrors": 1}, "serves": {"rule": RULE, "mirrors": 1},
        "appends_left": {"rule": FAILING, "mirrors": 1, "mark": 2},
        "choice": {"rule": RULE, "mirrors": 1, "mark": 1, "lying": (3,)}},
    "certificates": {
        "certificate": {"rule": RULE, "mirrors": 1},
        "shows_certificate": {"rule": RULE, "mirrors": 1, "value": ("serves", (0, 1, 2, 3))}},
    "sight": {
        "row_for": {"rule": FAILING, "mark": 2, "contents": ((0,),)},
        "ends": {"rule": FAILING, "mark": 2, "contents": ((0,),)},
        "blocking": {"rule": FAILING, "mirrors": 1, "mark": 2}, "family": {"rule": RULE, "mirrors": 1, "mark": 0},
        "shows_sight": {"rule": RULE, "mirrors": 1, "mark": 0, "value": ((0,),)}},
    "devices": {"is_record": {"value": (3, "old")}},
    "readers": {
        "records": {"device": device(), "rule": RULE, "mirror": 0},
        "payloads": {"device": device(), "rule": RULE, "mirror": 0}},
    "explore": {"kept_choices": {"device": device()}, "crash_rows": {"device": device(), "rule": RULE}},
    "showing": {"show_rule": {"rule": RULE}, "show_record": {"record": (3, "")}, "show_device": {"device": device()}},
    "reading": {
        "read_rule": {"source": "0 1\n-"}, "read_record": {"source": "3:-"},
        "read_device": {"source": "header -\nmirror 1:a 2:b"}},
}

# For each method what makes an object, and the arguments.
METHODS = {
    Attacker: (lambda: Attacker(FAILING, 1, 2), {
        "mark": {}, "lying": {}, "wrote": {"value": 0}, "is_stopped": {}}),
    Device: (device, {
        "read": {"mirror": 0, "slot": 1}, "write": {"mirror": 0, "slot": 2, "record": (2, "y")}, "flush": {},
        "header": {}, "set_header": {"slot": 1, "mark": 3}, "unflushed": {}, "crash": {"kept": ((True,),)},
        "crashes": {}, "allow": {"steps": 3}, "is_on": {}, "mirrors": {}, "clone": {}, "__len__": {}}),
    Log: (logged, {
        "flush": {}, "unflushed": {}, "records": {}, "payloads": {}, "capacity": {}, "cut": {"count": 1},
        "trim": {"count": 2}, "__len__": {}}),
    Session: (lambda: Session("0 1\n2 3\n0 1\n2 3", "header -\nmirror 1:a 2:b"), {"say": {"line": "format"}}),
}

CLASSES = {
    Attacker: {"rule": FAILING, "mirrors": 1, "mark": 2}, Device: {"mirrors": RINGS},
    Session: {"rule_source": "0", "device_source": "header -\nmirror 1:a 2:b"},
}

ERRORS = {
    "Unstoppable": "value", "BadMark": "value", "TooMany": "count", "BadMirrors": "value", "BadPlace": "value",
    "BadRecord": "value", "BadHeader": "value", "BadKept": "value", "BadPayload": "value", "BadCount": "value",
    "BadText": "line", "BadLine": "line", "PowerLost": None, "NoHeader": None, "NotServing": None, "Stale": None,
    "Full": None, "NoLog": None,
}

KINDS = (bool, int, str, tuple, type(None), Device, Log)


def in_all_ways(function, arguments):
    """Return what the function returns by position, by name in every order, and with some by position."""
    names = list(arguments)
    results = [function(*arguments.values())]
    for order in itertools.permutations(names):
        results.append(function(**{name: arguments[name] for name in order}))
    for count in range(1, len(names)):
        first = [arguments[name] for name in names[:count]]
        results.append(function(*first, **{name: arguments[name] for name in reversed(names[count:])}))
    return results


class Interface(unittest.TestCase):
    def check_parameters(self, function, arguments):
        parameters = [parameter for parameter in inspect.signature(function).parameters.values()
                      if parameter.name != "self"]
        self.assertEqual([parameter.name for parameter in parameters], list(arguments), function)
        for parameter in parameters:
            self.assertEqual(parameter.kind, inspect.Parameter.POSITIONAL_OR_KEYWORD)
            self.assertIs(parameter.default, inspect.Parameter.empty)

    def check_kinds(self, value):
        """Check that a result consists of the kinds that point 2 names."""
        self.assertIn(type(value), KINDS)
        if isinstance(value, tuple):
            for item in value:
                self.check_kinds(item)

    def told(self, arguments):
        """Return the arguments, and of a device all that it tells."""
        return [view(value) if isinstance(value, Device) else copy.deepcopy(value) for value in arguments.values()]

    def test_functions(self):
        for module, functions in FUNCTIONS.items():
            for name, arguments in functions.items():
                with self.subTest(module=module, name=name):
                    function = getattr(importlib.import_module("nextmarks." + module), name)
                    self.check_parameters(function, arguments)
                    before = self.told(arguments)
                    results = in_all_ways(function, arguments)
                    for result in results:
                        self.check_kinds(result)
                        self.assertEqual(result, results[0])
                        self.assertIs(type(result), type(results[0]))
                    self.assertTrue(same(self.told(arguments), before))

    def test_functions_that_make_logs(self):
        logs = importlib.import_module("nextmarks.logs")
        parameters = inspect.signature(logs.format_log).parameters
        self.assertEqual(list(parameters), ["device", "rule", "slot"])
        self.assertEqual(parameters["slot"].kind, inspect.Parameter.KEYWORD_ONLY)
        self.assertTrue(same(parameters["slot"].default, 0))
        self.check_parameters(logs.recover, {"device": None, "rule": None})
        for order in itertools.permutations(("device", "rule", "slot")):
            values = {"device": Device(RINGS), "rule": RULE, "slot": 2}
            self.assertIsInstance(logs.format_log(**{name: values[name] for name in order}), Log)
            self.assertEqual(values["device"].header()[0], 2)
            for again in in_all_ways(logs.recover, {"device": values["device"], "rule": RULE}):
                self.assertIsInstance(again, Log)

    def test_methods(self):
        for kind, (make, methods) in METHODS.items():
            for name, arguments in methods.items():
                with self.subTest(kind=kind, name=name):
                    self.assertIn(name, vars(kind))
                    self.check_parameters(getattr(kind, name), arguments)
                    # Each way of passing the arguments has an object of its own.
                    results = in_all_ways(lambda *values, **named: getattr(make(), name)(*values, **named), arguments)
                    for result in results:
                        self.check_kinds(result)
                        self.assertEqual(result, results[0])

    def test_append(self):
        self.check_parameters(Log.append, {"payload": None})
        log = format_log(Device(RINGS), RULE)
        self.assertEqual([log.append("x"), log.append(payload="y"), log.payloads()], [None, None, ("x", "y")])

    def test_classes(self):
        for kind, arguments in CLASSES.items():
            self.check_parameters(kind.__init__, arguments)
            for made in in_all_ways(kind, arguments):
                self.assertIsInstance(made, kind)

    def test_errors_hold_their_values(self):
        for name, attribute in ERRORS.items():
            kind = getattr(errors, name)
            self.assertEqual(kind.__bases__, (errors.MarkError,))
            if attribute is None:
                self.assertEqual(vars(kind()), {})
                continue
            for value in OTHER_KINDS:
                for made in (kind(value), kind(**{attribute: value})):
                    self.assertEqual(list(vars(made)), [attribute])
                    self.assertIs(getattr(made, attribute), value)

    def test_methods_of_which_nothing_is_said_return_none(self):
        for kind, names in ((Attacker, ("wrote",)), (Device, ("write", "flush", "set_header", "crash", "allow")),
                            (Log, ("flush", "cut", "trim"))):
            make, methods = METHODS[kind]
            for name in names:
                self.assertIsNone(getattr(make(), name)(**methods[name]))


if __name__ == "__main__":
    unittest.main()
