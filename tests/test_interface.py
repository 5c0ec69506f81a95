"""Tests that the names and arguments of the interface exist, each defined in its file."""

import importlib
import inspect
import unittest

FUNCTIONS = {
    "sky": {
        "is_spot": "sky spot", "check_sighting": "sky sighting",
    },
    "attitudes": {
        "attitudes": "sky", "motions": "sky", "check_attitude": "sky attitude", "check_command": "sky command",
        "check_motion": "sky motion", "turned": "quarters pair", "offset": "sky attitude number",
        "seen_stars": "sky attitude", "sure_stars": "sky attitude", "fits": "sky attitude number spot",
        "commanded": "sky attitude command", "taken_back": "sky command", "moved": "sky attitude motion",
        "motion_between": "sky one other", "joined": "sky first second", "reversed_motion": "sky motion",
        "apart": "sky one other", "are_far": "sky one other slack",
    },
    "notation": {
        "format_sky": "sky", "format_sighting": "sighting", "format_attitude": "attitude", "parse_sky": "text",
        "read_sighting": "sky text", "read_number": "text",
    },
    "matching": {
        "most": "table rows", "matching": "table rows columns", "is_matching": "table told", "partners": "table rows",
        "lack": "table rows", "least_lot": "table rows", "turned_table": "table many",
    },
    "sightings": {
        "table_of": "sky attitude sighting", "need": "sky attitude sighting", "explanation": "sky attitude sighting",
        "can_be": "sky attitude sighting missing false", "evidence": "sky attitude sighting missing false",
        "is_evidence": "sky attitude sighting missing false told", "possible": "sky sighting missing false",
        "needs": "sky sighting", "steps": "sky sighting",
    },
    "report": {
        "sky_map": "sky", "view": "sky attitude", "need_table": "sky sighting missing false",
    },
    "confuse": {
        "linked": "sky one other", "lack": "sky one other", "unlikeness": "sky one other",
        "lacking_lot": "sky one other", "couples": "sky one other", "are_confusable": "sky one other missing false",
        "confusing_sighting": "sky one other missing false", "parting_paper": "sky one other missing false",
        "check_parting": "sky one other missing false paper", "confusable_with": "sky one missing false",
    },
    "enough": {
        "most_links": "sky one other", "least_cover": "sky one other", "check_cover": "sky one other cover",
        "most_shared": "sky one other missing false", "shared_sighting": "sky one other missing false",
        "enough_spots": "sky missing false slack", "hardest_pair": "sky missing false slack",
        "enough_paper": "sky missing false slack", "shows_enough": "sky missing false slack number paper",
    },
    "rows": {
        "course": "sky beginning row", "row_need": "sky beginning row sightings",
        "beginnings": "sky row sightings missing false each", "row_lacks": "sky one other row",
        "are_confusable_over": "sky one other row missing false each",
        "confusing_sightings": "sky one other row missing false each",
        "quickest_row": "sky one other allowed missing false", "standstill": "sky one other allowed",
        "check_standstill": "sky one other allowed pairs", "frames_enough": "sky command missing false slack",
        "slowest_pair": "sky command missing false slack",
    },
    "turns": {
        "as_one": "sky row", "reached": "sky attitude commands", "row_to": "sky attitude goal commands",
        "behind": "sky lot command slip", "is_course": "sky attitudes row slip",
    },
    "filters": {
        "known": "sky log slip missing false", "frontiers": "sky log slip",
        "known_in_all": "sky log slip missing false", "needs_of": "sky log course",
        "course_behind": "sky log slip missing false attitude", "course_in_all": "sky log slip missing false attitude",
    },
    "blur": {
        "allowed": "sky", "need_with": "sky attitude sighting blur glare",
        "error_steps": "sky attitude sighting missing false", "least_blur": "sky sighting missing false glare",
        "blur_evidence": "sky attitude sighting missing false blur glare",
    },
    "seen": {
        "look": "sky attitude shifts false", "showing_of": "sky attitude sighting told",
    },
    "alike": {
        "sees": "sky attitude", "are_alike": "sky one other", "alike_lots": "sky", "telling_sighting": "sky one other",
        "check_telling": "sky one other told", "still_motions": "sky", "still_lots": "sky",
    },
    "sure": {
        "least_distance": "sky slack", "distances": "sky", "is_sure": "sky slack missing false",
        "unsure_example": "sky slack missing false", "least_slack": "sky errors",
        "sure_paper": "sky slack missing false", "check_sure": "sky slack missing false paper",
    },
    "guides": {
        "guide_need": "sky guides attitude sighting", "guide_lack": "sky guides one other",
        "guide_lot": "sky guides one other", "guide_distance": "sky guides slack", "weakest": "sky guides slack",
        "are_enough": "sky guides slack missing false", "misleading": "sky guides one true missing false",
        "needed_guides": "sky guides slack missing false", "thinned": "sky guides slack missing false",
        "in_every_lot": "sky slack missing false", "fewest_guides": "sky slack missing false",
    },
    "whole": {
        "is_whole": "sky", "kept": "sky motion", "kept_table": "sky quarter", "whole_distance": "sky slack",
        "distance_bound": "sky", "is_level": "sky",
    },
    "plans": {
        "tells": "sky row one other missing false", "telling_row": "sky one other commands missing false",
        "closed_lot": "sky one other commands missing false",
        "check_closed": "sky one other commands missing false lot", "telling_places": "sky motion missing false",
        "hidden_motions": "sky missing false", "untold": "sky row slack missing false",
        "finding_row": "sky slack commands missing false", "never_told": "sky slack commands missing false",
        "longest_telling": "sky slack commands missing false",
    },
    "slips": {
        "pairs_behind": "sky row slip missing false", "fooling": "sky row slip slack missing false",
        "check_fooling": "sky row slip slack missing false pairs", "rounds": "sky row slip slack missing false",
        "check_ring": "sky row slip slack missing false ring way",
    },
    "roles": {
        "pairs_at": "sky attitude sighting missing false", "false_at": "sky attitude sighting missing false",
        "out_at": "sky attitude sighting missing false", "names_of": "sky sighting missing false",
    },
    "keys": {
        "votes_at": "sky attitude sighting", "votes_needed": "spots false", "candidates": "sky sighting false",
        "identify": "sky sighting missing false",
    },
}
METHODS = {
    ("sky", "Sky"): {
        "__init__": "self side stars camera", "star_at": "self number", "number_of": "self star",
        "with_star": "self star", "without_star": "self number", "only": "self numbers",
        "with_camera": "self camera", "moved": "self motion", "same_as": "self other",
    },
    ("worlds", "World"): {
        "__init__": "self sky attitude", "sky_now": "self", "attitude_now": "self", "turn": "self command slip",
        "look": "self shifts false", "log": "self", "course": "self", "greatest_slip": "self", "errors": "self",
    },
    ("desk", "Desk"): {
        "__init__": "self sky", "put_star": "self star", "drop_star": "self number", "set_camera": "self camera",
        "move_sky": "self motion", "sky_now": "self", "answer": "self question", "undo": "self", "redo": "self",
        "begin": "self", "keep": "self", "drop": "self", "change_all": "self deeds",
    },
    ("session", "Session"): {"__init__": "self sky", "obey": "self line", "play": "self text"},
    ("keys", "Index"): {
        "__init__": "self sky", "finds": "self first second", "attitudes_for": "self first second",
        "votes": "self sighting",
    },
}
PROPERTIES = {("sky", "Sky"): "side stars camera reach blur glare limit", ("desk", "Desk"): "found",
              ("keys", "Index"): "sky"}


def module_of(name):
    """Return the file of the package with this name."""
    return importlib.import_module("starward." + name)


class InterfaceTest(unittest.TestCase):

    def check(self, thing, names):
        self.assertTrue(inspect.isfunction(thing))
        self.assertEqual(list(inspect.signature(thing).parameters), names.split())

    def test_functions_are_defined_in_their_files(self):
        for file, functions in FUNCTIONS.items():
            for name, names in functions.items():
                with self.subTest(file=file, name=name):
                    function = getattr(module_of(file), name)
                    self.check(function, names)
                    self.assertEqual(function.__module__, "starward." + file)

    def test_bounds_of_each_frame_may_be_left_out(self):
        for name in ("beginnings", "are_confusable_over", "confusing_sightings"):
            told = inspect.signature(getattr(module_of("rows"), name)).parameters["each"]
            self.assertIsNone(told.default)

    def test_methods_are_defined_in_their_classes(self):
        for (file, name), methods in METHODS.items():
            owner = getattr(module_of(file), name)
            self.assertEqual(owner.__module__, "starward." + file)
            for method, names in methods.items():
                with self.subTest(owner=name, method=method):
                    self.check(vars(owner)[method], names)

    def test_properties_are_defined_in_their_classes(self):
        for (file, name), properties in PROPERTIES.items():
            for told in properties.split():
                self.assertIsInstance(vars(getattr(module_of(file), name))[told], property, told)

    def test_errors_are_defined_in_their_file(self):
        names = ("SkyError InvalidSky InvalidSighting InvalidPaper InvalidShowing NotPossible NotWhole TooLarge "
                 "NothingToUndo NothingToRedo NoBlock InvalidAttitude InvalidCommand InvalidMotion UnknownStar "
                 "StarTaken InvalidNotation")
        for name in names.split():
            self.assertEqual(getattr(module_of("errors"), name).__module__, "starward.errors")


if __name__ == "__main__":
    unittest.main()
