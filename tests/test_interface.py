"""The interface: every name is defined in its own file, with the arguments that the document lists."""

import importlib
import inspect
import unittest

FUNCTIONS = {
    "notation": ["format_tree(tree)", "parse_tree(text)"],
    "sizes": ["normal(values)", "top_sums(sizes)", "take(sizes, place)", "take_largest(sizes)",
              "take_smallest(sizes)", "is_as_safe(first, second)", "conjugate(sizes)", "meet(first, second)",
              "join(first, second)", "glue(first, second)", "levelled(total, piles, top)",
              "grown_safest(sizes, extra)", "grown_riskiest(sizes, extra)"],
    "orders": ["check_order(text)", "telling_order(total, count, limit)", "is_fair(order)",
               "tails_kinder(first, second)", "hardest(pattern, *, raids=None)", "kindest(pattern, *, raids=None)"],
    "rows": ["free_row(total)", "fits(sizes, row)", "first_break(sizes, row)", "keeper_step(row)",
             "raider_step(row)", "pull(order, *, goal=())", "tail_rows(order, *, goal=())", "tight(row)",
             "kinder(first, second)", "alike(first, second)"],
    "classes": ["unlike_orders(total)", "order_for(row)"],
    "scripts": ["joined(first, second)"],
    "reading": ["parse_script(text)"],
    "fates": ["plain_play(sizes, order)", "hour(sizes, order)", "kept(sizes, order, *, goal=None)",
              "kept_cells(tree, order)"],
    "guides": ["keeper_pluck(board, cell)", "raider_pluck(board, cell)"],
    "safety": ["order_against(first, second)", "refutation(sizes, place, letter)", "safest(tree)", "unbeaten(tree)"],
    "tallies": ["count_orders(sizes)", "raid_counts(sizes)", "order_at(sizes, index)", "index_of(sizes, order)",
                "fair_orders(total, raids)"],
    "spread": ["spread(tree)", "keeping_some(tree)"],
    "regions": ["outer_sizes(tree, region)", "region_fate(tree, region, order)", "strongholds(tree, turns)",
                "region_keeper_pluck(board, region)", "region_raider_pluck(board, region)"],
    "reserves": ["reserves(tree, region)", "reserve_row(order, ends)", "stays_whole(tree, region, order)",
                 "whole_keeper_pluck(board, region)", "whole_raider_pluck(board, region)"],
    "woods": ["struck(order, *, spares=0, layers=1)", "wood_kept(wood, cell, order)",
              "wood_keeper_pluck(wood, left, cell)", "wood_raider_pluck(wood, left, cell)"],
    "webs": ["web_kept(web, cell, order)"],
    "changes": ["mend(sizes, order)", "mend_tree(tree, cell, order)", "gifts(sizes, order)",
                "spare_turns(sizes, order)"],
    "commands": ["split_line(line)"],
    "desk": ["replay(lines)"],
    "certificates": ["certificate(sizes, order, *, goal=None)", "bad_line(sizes, order, certificate, *, goal=None)"],
}

CLASSES = {
    "trees.Tree": ["__init__(self, size, links)", "links(self)", "neighbours(self, cell)", "tips(self)",
                   "branches(self, cell)", "sizes(self, cell)", "all_sizes(self)", "path(self, start, end)",
                   "grafted(self, cell)", "plucked(self, tip)", "moved(self, tip, cell)"],
    "boards.Board": ["__init__(self, tree)", "live(self)", "tips(self)", "is_live(self, cell)",
                     "branches(self, cell)", "sizes(self, cell)", "pluck(self, cell)", "restore(self)",
                     "plucked(self)"],
    "scripts.Script": ["row(self, *, goal=())", "keeps(self, sizes, *, goal=None)", "run_count(self)", "runs(self)",
                       "losing_run(self, sizes, *, goal=None)"],
    "plays.Play": ["__init__(self, tree, cell)", "__iter__(self)", "turn(self, letter, cell)", "undo(self)",
                   "advice(self, letter)", "order(self)", "sizes(self)", "live(self)", "is_over(self)",
                   "has_fallen(self)", "slips(self)"],
    "listings.KeptLists": ["__init__(self, order)", "__iter__(self)", "__contains__(self, sizes)", "total(self)",
                           "heaviest(self)"],
    "woods.Wood": ["__init__(self, size, links, layers)", "total(self)", "layers(self)", "spares(self, cell)",
                   "layer_sizes(self, cell)", "loose(self, left)"],
    "webs.Web": ["__init__(self, size, links)", "neighbours(self, cell)", "loose(self, live)", "pieces(self, cell)",
                 "sizes(self, cell)", "blocks(self)", "is_sound(self)", "flaw(self)"],
    "desk.Desk": ["__init__(self)", "__iter__(self)", "run(self, line)", "run_all(self, lines)", "undo(self)",
                  "redo(self)", "journal(self)", "names(self)"],
    "safety.Prober": ["__init__(self, total)", "question(self)", "answer(self, kept)", "found(self)", "asked(self)"],
}


class Interface(unittest.TestCase):
    def check(self, holder, listed, module):
        name = listed.partition("(")[0]
        function = vars(holder)[name]
        self.assertTrue(inspect.isfunction(function), listed)
        self.assertEqual(function.__module__, module, listed)
        self.assertEqual(name + str(inspect.signature(function)), listed)

    def test_functions(self):
        for file, functions in FUNCTIONS.items():
            module = importlib.import_module("barebough." + file)
            for listed in functions:
                self.check(module, listed, module.__name__)

    def test_classes(self):
        for place, methods in CLASSES.items():
            file, _, name = place.partition(".")
            module = importlib.import_module("barebough." + file)
            holder = getattr(module, name)
            self.assertEqual(holder.__module__, module.__name__, place)
            for listed in methods:
                self.check(holder, listed, module.__name__)


if __name__ == "__main__":
    unittest.main()
