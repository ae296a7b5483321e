"""The names, the arguments and the files of the interface."""

import importlib
import inspect
import unittest

INTERFACE = {
    "nets": {
        "Net": "nodes tasks", "Net.__len__": "", "Net.__eq__": "other", "Net.ends": "task", "Net.at": "node", "Net.far": "task node", "Net.minds": "task node",
        "Net.line": "", "is_load": "net value", "is_lasts": "net value", "read_net": "line",
    },
    "states": {
        "State": "net load lasts=None", "State.__eq__": "other", "State.total": "", "State.line": "", "work": "state node",
        "slack": "state task node", "slacks": "state", "tight": "state node", "urgent": "state node", "fine": "state",
        "too_often": "state", "read_state": "net line",
    },
    "runs": {
        "legal": "state", "bars": "state task", "run": "state task", "open_tasks": "state node", "safe": "state",
        "spoils": "state",
    },
    "schedules": {
        "run_all": "state schedule", "is_schedule": "state value", "is_complete": "state value",
        "own_row": "net schedule node", "wastes": "state schedule node task",
    },
    "rings": {"rings": "state", "is_ring": "state value"},
    "decide": {
        "can_be_done": "state", "defect": "state", "is_defect": "state value", "schedule_of": "state",
        "keeping": "state",
    },
    "leasts": {
        "least_schedule": "state", "why_least": "state schedule", "is_why_least": "state schedule value",
        "stuck": "state", "held_up": "state",
    },
    "stations": {
        "Station": "number rows * last=None", "Station.left": "task", "Station.wanted": "task", "Station.open_tasks": "",
        "Station.addable": "", "Station.order": "task", "Station.take": "letter", "Station.tick": "",
        "Station.fall": "", "Station.forget": "", "Station.log": "", "Station.decided": "", "Station.knows": "",
        "station_of": "state node", "is_letter": "station value",
    },
    "exchanges": {
        "Exchange": "state", "Exchange.letters": "", "Exchange.deliver": "at", "Exchange.lose": "at",
        "Exchange.double": "at", "Exchange.tick": "node", "Exchange.fall": "node", "Exchange.forget": "node",
        "Exchange.order": "task", "Exchange.history": "", "Exchange.present": "", "Exchange.knows": "node",
        "Exchange.log": "node", "Exchange.wanted": "", "Exchange.settle": "",
    },
    "lasts": {
        "looks": "net lasts", "circle_of": "net lasts", "why_false": "net lasts", "is_true": "net lasts",
    },
    "pasts": {
        "past_of": "net lasts", "is_past": "net lasts value", "count_pasts": "net lasts", "sure_order": "net lasts",
        "past_with": "net lasts node other",
    },
    "memories": {
        "rested": "state rests", "parting_load": "net lasts other", "is_parting_load": "net lasts other value",
        "forgotten": "state nodes", "to_forget": "state",
    },
    "taking": {
        "addable": "state", "removable": "state", "build_of": "state", "is_build": "state value",
        "greater": "state load", "climb": "state load",
    },
    "passages": {"passage": "state one other", "opposite": "state one other"},
    "greatest": {
        "greatest": "net lasts bounds", "is_greatest": "net lasts bounds value", "reasons": "net lasts bounds",
        "is_reasons": "net lasts bounds value", "level": "net lasts bounds task number",
    },
    "walks": {
        "lowered": "net lasts load task", "price": "net lasts load task", "leaves": "net lasts load node",
        "is_strikes": "net lasts load node value",
    },
    "boxes": {
        "fate_between": "net lasts low high", "is_fate_between": "net lasts low high value",
        "waivers": "state", "waived": "state ends",
    },
    "partial": {
        "full_lasts": "net lasts known", "last_could_be": "net lasts known node task", "fate_known": "state known",
    },
    "profiles": {
        "need": "state node", "profile": "state", "is_profile": "value nodes", "fits": "first second",
        "together": "first second",
    },
    "joins": {
        "joined": "one other", "parting": "one other", "never_worse": "one other", "is_parting": "one other value",
        "merged": "state node other",
    },
    "helps": {"least_help": "state", "shared_help": "state", "helped": "state pairs"},
    "errands": {
        "repeated": "state number", "times_over": "state", "is_errand": "net value", "errands": "state",
        "is_errands": "state value",
    },
    "branches": {"is_closed_branch": "net task node value", "errand_through": "net task"},
    "rows": {
        "fit": "net rows", "is_fit_ring": "net rows value", "own_rows": "state node", "count_own_rows": "state node",
    },
    "stories": {
        "story_of": "net schedule", "stories": "state", "count_stories": "state", "forest_ring": "net",
        "is_forest_ring": "net value",
    },
    "nexts": {"between": "state nexts", "is_between": "state nexts value", "behind": "net load lasts"},
    "heads": {
        "heads": "net lasts task node", "tops": "net lasts", "capped": "net lasts number", "core": "net",
        "off_core": "net lasts",
    },
    "gathers": {
        "way": "net node other", "gathering": "net lasts node", "longest": "net lasts", "longest_day": "net lasts",
        "ledger": "net lasts schedule node", "toll": "net lasts task",
    },
    "days": {
        "middles": "net", "outward": "net", "is_day": "net lasts value", "end_of_day": "net task",
        "shortest_day": "net task", "day_of": "net number",
    },
    "rounds": {"is_rounds": "net value", "longest_rounds": "net", "count_longest": "net"},
    "heights": {
        "row_net": "nodes", "count_row_loads": "nodes", "row_load": "nodes index", "row_index": "nodes load",
    },
    "gangs": {
        "Gang": "nodes tasks", "Gang.__eq__": "other", "gang_often": "gang load lasts", "gang_moves": "gang load lasts",
        "gang_schedule": "gang load lasts", "is_gang_fence": "gang load lasts value",
    },
    "tints": {
        "tie_number": "nodes ties", "web_gang": "nodes ties", "tinted_schedule": "nodes ties tints",
        "tints_of": "nodes ties schedule", "tintings": "nodes ties",
    },
    "clubs": {"club_schedule": "state clubs", "is_club_fence": "state clubs value"},
    "air": {
        "touching": "state task", "air_defect": "state air", "air_schedule": "state air", "air_keeping": "state air",
        "is_air_schedule": "state air value",
    },
    "desk": {
        "Desk": "net lasts=None", "Desk.__eq__": "other", "Desk.state": "", "Desk.load": "", "Desk.lasts": "",
        "Desk.wishes": "", "Desk.wish": "task number=1", "Desk.run": "task", "Desk.strike": "task", "Desk.leave": "node",
        "Desk.forget": "node", "Desk.undo": "", "Desk.redo": "", "Desk.tried": "deeds", "Desk.journal": "",
        "Desk.forecast": "", "Desk.next_runs": "", "Desk.greatest_within": "bounds",
    },
    "journal": {"read_desk": "net lasts lines"},
}


def words(signature):
    """The arguments of a function or a class as the table above writes them."""
    found = []
    for name, argument in signature.parameters.items():
        if argument.kind is argument.KEYWORD_ONLY and "*" not in found:
            found.append("*")
        found.append(name if argument.default is argument.empty else f"{name}={argument.default}")
    return " ".join(found)


class InterfaceTest(unittest.TestCase):
    def test_everything_is_defined_in_its_file_with_its_arguments(self):
        for file, names in INTERFACE.items():
            module = importlib.import_module(f"otherfirst.{file}")
            for name, arguments in names.items():
                owner, _, method = name.partition(".")
                thing = getattr(module, owner)
                self.assertEqual(thing.__module__, module.__name__, name)
                told = words(inspect.signature(thing))
                if method:
                    self.assertIn(method, vars(thing), name)
                    told = words(inspect.signature(vars(thing)[method])).removeprefix("self").strip()
                self.assertEqual(told, arguments, name)


if __name__ == "__main__":
    unittest.main()
