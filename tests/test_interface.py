"""Each name of the interface stands, with its arguments, in the file under which it is listed."""

import importlib
import inspect
import unittest

INTERFACE = {
    "nets": ["Net(many, root, links)", "entering(net, lot, side)", "every_link(net)", "supply(net, lot)",
             "bar(net, lot, many)", "is_bar(net, lot, many, thing)", "tight_sides(net, lot)"],
    "ways": ["ways(net, lot, place)", "are_ways(net, lot, place, thing)", "nearest_side(net, lot, place)",
             "farthest_side(net, lot, place)"],
    "packing": ["is_tree(net, thing)", "is_packing(net, thing)", "is_grown(net, thing)", "packing(net, many)",
                "packing_within(net, lot, many)", "heard_by(net, grown)", "safe_links(net, lot, many, grown)"],
    "trees": ["depths(net, tree)", "way_in(net, tree, place)", "all_trees(net, lot)"],
    "roots": ["woods(net, roots)", "continued(net, parts)", "are_woods(net, roots, thing)",
              "is_continued(net, parts, thing)"],
    "rates": ["rate(net, widths)", "loads(net, widths, many)", "are_loads(net, widths, many, thing)"],
    "ties": ["Web(many, ties)", "is_spanning(web, thing)", "are_spanners(web, thing)",
             "is_crossed(web, many, thing)", "crossing(web, parting)", "spanners(web, many)",
             "led_from(web, spanners, place)", "net_of(web, place)", "strength(web)"],
    "further": ["lacking(net, many)", "to_add(net, many)", "greatest_lack(net, many)",
                "is_enough(net, many, thing)", "is_lack(net, thing)"],
    "prices": ["can_part(web, many, lot)", "parted(web, many, lot)", "closed_by(web, many, lot, tie)",
               "cheapest(web, prices, many)", "is_cheapest(web, prices, many, thing)"],
    "words": ["spread(prime, frame, many)", "told(prime, size, heard)", "mended(prime, size, heard)",
              "wrong_words(prime, size, heard)"],
    "plans": ["Plan(net, trees, size)", "plan_for(net, size, spare)", "deepest(plan)"],
    "losses": ["is_losses(net, thing)", "spent(net, losses, span)", "hears(plan, losses, number)",
               "told_at(plan, losses, number)"],
    "streams": ["Stream(plan, prime, frames)"],
    "stops": ["stopped(plan, lost)", "stops(plan, place)", "least_stop(plan)", "greatest_spare(net, size)",
              "harm(net, size)", "is_harm(net, size, thing)"],
    "turning": ["least_rest(elder, newer)", "clash(elder, newer, rest)", "Turned(plan, prime)"],
    "strangers": ["led(net, size, prime, frames, beats, losses, forwarder, teller)",
                  "tree_forwarder(plan, prime)", "tree_teller(plan, prime)",
                  "too_few(prime, size, links, frames, beats)"],
    "runs": ["Runs(net, size, spare, prime)"],
    "desk": ["Desk(many, root, size, spare, prime)", "tale(many, root, size, spare, prime, lines)"],
}
METHODS = {
    ("streams", "Stream"): ["beat(self, lost)", "beats(self)", "heard(self, place)", "row(self, place)",
                            "under_way(self)", "room(self, place)", "copy(self)"],
    ("turning", "Turned"): ["beat(self, frame, lost)", "turn(self, newer)", "rests(self)", "beats(self)",
                            "heard(self, place)", "row(self, place)", "under_way(self)", "plan(self)", "copy(self)"],
    ("runs", "Runs"): ["beat(self, frame, lost)", "drop(self, link)", "add(self, pair)", "renew(self)",
                       "there(self)", "plan(self)", "row(self, place)", "rests(self)", "beats(self)", "book(self)",
                       "copy(self)"],
    ("desk", "Desk"): ["tell(self, line)"],
}


class InterfaceTest(unittest.TestCase):

    def test_names_and_arguments(self):
        for file, lines in INTERFACE.items():
            module = importlib.import_module(f"sparetrees.{file}")
            for line in lines:
                name = line.split("(")[0]
                thing = getattr(module, name)
                self.assertEqual(thing.__module__, f"sparetrees.{file}")
                self.assertEqual(name + str(inspect.signature(thing)), line)

    def test_methods_stand_in_the_class_itself(self):
        for (file, name), lines in METHODS.items():
            held = vars(getattr(importlib.import_module(f"sparetrees.{file}"), name))
            for line in lines:
                method = line.split("(")[0]
                self.assertEqual(method + str(inspect.signature(held[method])), line)

    def test_nets_webs_and_plans_have_their_own_equality(self):
        self.assertIn("__eq__", vars(importlib.import_module("sparetrees.nets").Net))
        self.assertIn("__eq__", vars(importlib.import_module("sparetrees.ties").Web))
        self.assertIn("__eq__", vars(importlib.import_module("sparetrees.plans").Plan))


if __name__ == "__main__":
    unittest.main()
