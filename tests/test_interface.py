"""The interface: names, arguments and files, as the document lists them."""

import inspect
import unittest
from importlib import import_module

# By file, by name: the parameters; those of a class are the ones that it is called with.
FUNCTIONS = {
    "hands": {
        "share": "hands", "is_telling": "hands", "need_telling": "hands", "need_hand": "hands hand",
        "check_story": "hands value", "room": "hands", "new_marks": "hands", "hands_more": "hands marks",
    },
    "logs": {
        "check_logs": "hands value", "last_marks": "hands logs", "story_counts": "hands story",
        "laid_logs": "hands story marks", "marks_along": "hands story logs", "struck_logs": "hands logs hand",
    },
    "texts": {
        "hands_text": "hands", "read_hands": "text", "story_text": "hands story", "read_story": "hands text",
        "logs_text": "hands logs", "read_logs": "hands text",
    },
    "counts": {
        "story_number": "hands counts", "logs_number": "hands counts", "nth_story": "hands counts number",
        "story_place": "hands story", "crowded_counts": "hands length",
    },
    "court": {
        "least_failing": "hands * most=400", "court_paper": "hands * most=400", "court_holds": "hands value",
        "crowd_bound": "hands length", "book_logs": "hands book story", "alike_stories": "hands book story",
        "twin_stories": "hands book", "crowd_number": "hands book length",
    },
    "dials": {
        "dial_place": "dial last", "who_last": "dial last", "mark_of": "dial last hand", "logs_of": "dial story",
    },
    "reading": {
        "story_of": "dial logs", "is_left": "dial logs", "read_from": "dial last logs", "tail_of": "dial logs",
    },
    "digits": {
        "least_number": "hands", "who_at": "digits place", "step": "digits place hand",
        "step_back": "digits place mark", "digit_logs": "digits story place=0", "digit_story": "digits place logs",
    },
    "undoing": {"fitting_places": "digits logs place=0"},
    "rates": {
        "grow_step": "hands number hand", "grow_back": "hands number mark", "grow_logs": "hands story * number=0",
        "grow_story": "hands logs number", "greatest_number": "hands length * number=0",
        "needed_numbers": "hands length * riders=None", "resting_number": "hands", "swallow_length": "hands number",
    },
    "riders": {
        "riders_share": "hands riders", "carry_mark": "carrier last hand thing", "carried_last": "carrier last",
        "carry_logs": "carrier story", "carry_story": "carrier logs", "most_riders": "hands riders hand",
    },
    "tables": {
        "all_lasts": "hands", "table_who": "table last", "bad_line": "table", "is_good": "table", "dial_table": "hands",
        "table_mark": "table last hand", "table_logs": "table story", "table_story": "table logs",
        "table_paper": "hands told", "table_holds": "hands told value",
    },
    "markers": {
        "marker_logs": "marker story", "clash_paper": "marker", "is_reversible": "marker",
        "marker_story": "marker logs standing", "table_marker": "table", "two_stories": "marker length * most=20000",
        "stories_hold": "marker value",
    },
    "kinds": {
        "kinds_share": "kinds", "is_served": "kinds", "need_served": "kinds", "alike_marks": "kinds",
        "check_meetings": "kinds value", "kinds_counts": "kinds story", "stories_leaving": "kinds lengths",
        "logs_many": "kinds lengths", "full_lengths": "kinds * most", "kinds_text": "kinds", "read_kinds": "hands text",
    },
    "flats": {
        "flat_of": "kinds last kind", "flat_lacking": "kinds table", "kinds_table": "kinds", "who_met": "flats last",
        "lasts_behind": "flats last kind", "flats_logs": "flats story", "flats_story": "flats logs",
        "flats_tail": "flats logs", "torn_ends": "flats logs",
    },
    "meets": {
        "kinds_number": "kinds * most", "kind_at": "tally place", "meet": "tally place kind",
        "unmeet": "tally place marks", "tally_logs": "tally story place=0", "tally_story": "tally place logs",
    },
    "protocols": {"deeds_from": "protocol state", "check_run": "protocol value", "run_story": "protocol run"},
    "knots": {
        "protocol_knots": "protocol", "knot_sign": "protocol knot", "numbers_exist": "protocol",
        "least_alike": "protocol", "least_for_hand": "protocol hand", "needed_room": "protocol length * most=20000",
    },
    "plans": {
        "protocol_paper": "protocol * most=2000", "protocol_holds": "protocol value",
        "move_on": "plan state number deed", "hand_at": "plan state number", "move_back": "plan state number mark",
        "run_logs": "plan run number=0", "run_back": "plan state number logs",
        "fitting_standings": "plan logs number=0",
    },
    "weights": {
        "check_numbers": "numbers", "log_number": "hands numbers", "weight_bounds": "numbers", "least_marks": "numbers",
    },
    "tight": {"is_tight": "hands", "tight_marks": "many"},
    "epochs": {
        "need_guest": "crowd guest", "check_guests": "crowd story", "fewest_epochs": "crowd story",
        "full_runs": "crowd story", "runs_hold": "crowd story value",
    },
    "journals": {
        "check_pages": "crowd logs", "with_entry": "log epoch rank mark", "journal_of": "crowd logs",
        "cut_pages": "crowd logs epoch", "resumed": "crowd logs",
    },
    "losses": {
        "fit_number": "dial left lost", "fit_story": "dial left lost number", "fit_place": "dial left lost story",
        "fit_numbers": "dial left hand most", "noticed_tails": "dial logs hand",
    },
    "store": {"deeds_of": "hands sheet", "store_of": "hands sheet", "mended_sheet": "hands sheet"},
    "since": {
        "since_logs": "hands story", "is_rest": "hands logs", "rest_order": "hands logs",
        "sure_length": "hands logs", "is_ahead": "hands logs one other",
    },
}
CLASSES = {
    "errors": {
        "LogError": None, "BadHands": "at", "BadKinds": "at", "BadStory": "at", "BadLogs": "at", "BadText": "at",
        "Refused": "at", "TooGreat": "most", "NoTelling": "top bottom", "NoHand": "hand",
    },
    "hands": {"Hands": "marks"},
    "dials": {"Dial": "hands", "DialDesk": "hands"},
    "digits": {"Digits": "hands number=None"},
    "undoing": {"UndoDesk": "hands number=None"},
    "riders": {"Carrier": "hands riders"},
    "tables": {"Table": "hands tells"},
    "markers": {"Marker": "hands rows"},
    "kinds": {"Kinds": "hands lots"},
    "flats": {"Flats": "kinds table=None"},
    "meets": {"Tally": "kinds number"},
    "protocols": {"Turns": "hands states moves start=0"},
    "plans": {"Plan": "protocol numbers=None", "PlanDesk": "plan"},
    "epochs": {"Crowd": "marks", "Roll": "crowd epoch=0"},
    "store": {"Store": "hands cells"},
    "since": {"Witness": "hands"},
    "desk": {"Desk": "text"},
}
# By file, class and method: the parameters behind the object.
METHODS = {
    ("dials", "DialDesk", "act"): "hand",
    ("dials", "DialDesk", "who"): "",
    ("undoing", "UndoDesk", "act"): "hand",
    ("undoing", "UndoDesk", "who_undoes"): "",
    ("undoing", "UndoDesk", "undo"): "mark",
    ("plans", "PlanDesk", "act"): "deed",
    ("plans", "PlanDesk", "who_undoes"): "",
    ("plans", "PlanDesk", "undo"): "mark",
    ("epochs", "Roll", "act"): "guest",
    ("epochs", "Roll", "who"): "",
    ("store", "Store", "put"): "hand cell number",
    ("store", "Store", "who_undoes"): "",
    ("store", "Store", "who_redoes"): "",
    ("store", "Store", "undo_last"): "",
    ("store", "Store", "redo_next"): "",
    ("store", "Store", "sheet"): "",
    ("since", "Witness", "act"): "hand",
    ("desk", "Desk", "say"): "line",
}


def written(call):
    """The parameters of a call, told as in the tables above."""
    words = []
    for parameter in inspect.signature(call).parameters.values():
        if parameter.kind == parameter.KEYWORD_ONLY and "*" not in words:
            words.append("*")
        default = "" if parameter.default is parameter.empty else f"={parameter.default}"
        words.append(parameter.name + default)
    return " ".join(words)


class Interface(unittest.TestCase):
    def test_functions(self):
        for file, names in FUNCTIONS.items():
            for name, parameters in names.items():
                function = getattr(import_module("logsapart." + file), name)
                self.assertEqual("logsapart." + file, function.__module__)
                self.assertTrue(inspect.isfunction(function), name)
                self.assertEqual(parameters, written(function), name)

    def test_classes(self):
        for file, names in CLASSES.items():
            for name, parameters in names.items():
                kind = getattr(import_module("logsapart." + file), name)
                self.assertEqual("logsapart." + file, kind.__module__)
                self.assertTrue(inspect.isclass(kind), name)
                if parameters is not None:
                    self.assertEqual("self " + parameters, written(vars(kind)["__init__"]), name)

    def test_methods(self):
        for (file, name, method), parameters in METHODS.items():
            kind = getattr(import_module("logsapart." + file), name)
            self.assertEqual(("self " + parameters).strip(), written(vars(kind)[method]), (name, method))


if __name__ == "__main__":
    unittest.main()
