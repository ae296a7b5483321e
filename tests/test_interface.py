"""The names, the arguments and the files of the interface."""

import importlib
import inspect
import unittest

INTERFACE = {
    "nets": {
        "Net": "nodes tasks", "Net.ends": "task", "Net.at": "node", "Net.far": "task node", "Net.minds": "task node",
        "Net.line": "", "is_load": "net value", "is_lasts": "net value", "read_net": "line",
    },
    "states": {
        "State": "net load lasts=None", "State.total": "", "State.line": "", "work": "state node",
        "slack": "state task node", "slacks": "state", "tight": "state node", "urgent": "state node", "fine": "state",
        "too_often": "state", "read_state": "net line",
    },
    "runs": {
        "legal": "state", "bars": "state task", "run": "state task", "open_tasks": "state node", "safe": "state",
        "spoils": "state",
    },
    "schedules": {
        "run_all": "state schedule", "is_schedule": "state value", "is_complete": "state value",
        "own_row": "net schedule node", "wastes": "state schedule node task",
    },
    "rings": {"rings": "state", "is_ring": "state value"},
}


def words(signature):
    """The arguments of a function or a class as the table above writes them."""
    found = []
    for name, argument in signature.parameters.items():
        if argument.kind is argument.KEYWORD_ONLY and "*" not in found:
            found.append("*")
        found.append(name if argument.default is argument.empty else f"{name}={argument.default}")
    return " ".join(found)


class InterfaceTest(unittest.TestCase):
    def test_everything_is_defined_in_its_file_with_its_arguments(self):
        for file, names in INTERFACE.items():
            module = importlib.import_module(f"otherfirst.{file}")
            for name, arguments in names.items():
                owner, _, method = name.partition(".")
                thing = getattr(module, owner)
                self.assertEqual(thing.__module__, module.__name__, name)
                told = words(inspect.signature(thing))
                if method:
                    self.assertIn(method, vars(thing), name)
                    told = words(inspect.signature(vars(thing)[method])).removeprefix("self").strip()
                self.assertEqual(told, arguments, name)


if __name__ == "__main__":
    unittest.main()
