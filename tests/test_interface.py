"""The interface: what is there, under which name, in which file, with which arguments."""

import importlib
import inspect
import os
import unittest

import onelate

FUNCTIONS = {
    "fractions": ["fraction num den", "plus one other", "less one other", "times one other", "over one other",
                  "size_of one", "total some", "greatest some", "least some", "compare one other"],
    "forms": ["is_integer thing", "is_fraction thing", "is_rule many thing", "is_book thing", "is_start book thing",
              "is_turn book thing", "is_row book thing", "is_round book thing", "is_aged_turn book thing",
              "is_aged_row book thing", "is_choice book thing", "is_lot book thing", "is_box book thing",
              "is_name thing", "are_names book thing"],
    "books": ["value_by rule values", "reads_of rule", "plain_book book", "chosen_book book choice",
              "scaled_book book by", "with_errors book errors", "renumbered book order", "with_rule book cell rule",
              "without_rules book bars", "without_reads book reads"],
    "texts": ["show_book book names"],
    "reader": ["read_book text"],
    "rows": ["as_aged book row", "as_late book aged_row", "late_reads row", "worked_out book start aged_row",
             "ran book start aged_row"],
    "stages": ["stages_of book aged_row", "pair_stages book aged_row"],
    "distances": ["apart one other", "distances book one other aged_row", "greatest_by weights pairs"],
    "systems": ["solution_of rows goal", "still_row rows"],
    "choices": ["burdens_by book values", "best_choice book values", "all_choices book", "sizes_of book choice"],
    "weights": ["weights_of book", "is_weights book thing", "weights_for book right", "rate_by book values"],
    "heavylots": ["tied_lots book choice", "heavy_lot book", "can_be_heavy book choice lot", "is_heavy_lot book thing"],
    "apart": ["apart_start book found signs", "apart_round book found order signs", "is_apart_paper book thing"],
    "fewest": ["late_reads_of book found order signs", "fewest_late book found"],
    "cells": ["apart_cells book", "together_weights book", "leading_steps book cell", "is_leading book cell thing"],
    "far": ["far_round book cell leading"],
    "boxes": ["high_by rule box", "low_by rule box", "next_box book box", "box_of book", "lies_in one other",
              "is_own_box book thing", "end_of book"],
    "nearing": ["nearing_round book", "misses book start rounds", "rounds_for book start nearness"],
    "bounds": ["ends_in book bounds", "error_box book errors", "greatest_error book bounds"],
    "ever": ["ever_box book start", "is_ever_box book start thing", "come_to book start cell side"],
    "leaving": ["near_row book start cell side nearness", "leaving_row book start bounds"],
    "paces": ["pace_side book t", "is_pace_side book t thing", "pace_between book width",
              "stage_bound weights t distances stage", "stages_for weights t distances nearness"],
    "stagerows": ["stage_starts book found", "stage_row book found stages", "stage_distances book found stages"],
    "stillfar": ["left_behind book start row age", "still_box book left", "still_far book left goal"],
    "parts": ["is_part thing", "is_surroundings part thing", "inner_book part", "whole_book part around",
              "parted book lot", "joined_part inputs one feeds other others"],
    "reaches": ["reach_of part distances"],
    "pieces": ["pieces_of part cell", "least_pieces part cell", "shares_of piece pieces",
               "parting_distances piece pieces"],
    "flat": ["form_of part", "flat_part part"],
    "stands": ["stands_for one other", "are_alike one other", "why_not one other"],
    "around": ["parting_surroundings one other", "is_parting one other thing"],
    "needless": ["needless_rules part", "spare_part part"],
    "signs": ["signs_of book", "minus_ring book", "is_minus_ring book thing"],
    "even": ["scales_of book", "squares_of book", "low_values book", "energy book values"],
    "latealone": ["calm_prompt book", "late_alone book"],
    "mends": ["least_reads book most", "least_bars book most", "least_holds book most", "heals book word lot",
              "heavy_without book word lot"],
    "damping": ["damped_book book q", "damping_of book", "stiff_lot book", "is_stiff_lot book thing"],
}
CLASSES = {
    "errors": {"LateError": {}, "Wrong": {"__init__": "place"}, "NoQuotient": {}, "NoRule": {"__init__": "cell"},
               "NoText": {"__init__": "line"}, "NoAge": {"__init__": "cell"}, "NoTurn": {"__init__": "index"},
               "NotLate": {"__init__": "index"}, "Heavy": {"__init__": "found"}, "TooMany": {"__init__": "most"},
               "NotEven": {}, "NotTold": {}, "NoName": {"__init__": "name"}, "Broken": {"__init__": "duty"},
               "Nothing": {}, "NoCommand": {}},
    "course": {"Course": {
        "__init__": "book start", "turn": "cell rule late", "aged": "cell rule ages", "again": "", "newest": "",
        "pairs": "", "back": "", "values_of": "cell", "log": "", "stage_of": "cell age", "twin": ""}},
    "works": {"Works": {
        "__init__": "", "put_book": "name book", "put_part": "name part", "drop": "name", "add_duty": "duty",
        "back": "", "again": "", "drop_duty": "index", "names": "", "called": "name", "duties": "", "twin": ""}},
    "desk": {"Desk": {"__init__": "text", "execute": "line", "works": ""}},
}


def of_file(name):
    return importlib.import_module("onelate." + name)


def arguments(function):
    return " ".join(inspect.signature(function).parameters)


class InterfaceTest(unittest.TestCase):
    def test_functions_stand_in_their_files(self):
        for name, functions in FUNCTIONS.items():
            for function, _, told in (words.partition(" ") for words in functions):
                there = getattr(of_file(name), function)
                self.assertTrue(inspect.isfunction(there))
                self.assertEqual(there.__module__, "onelate." + name)
                self.assertEqual(arguments(there), told, function)

    def test_classes_stand_in_their_files(self):
        for name, classes in CLASSES.items():
            for one, methods in classes.items():
                there = getattr(of_file(name), one)
                self.assertEqual(there.__module__, "onelate." + name)
                for method, told in methods.items():
                    self.assertEqual(arguments(vars(there)[method]), ("self " + told).strip(), (one, method))

    def test_the_package_file_is_empty(self):
        self.assertEqual(os.path.getsize(onelate.__file__), 0)
