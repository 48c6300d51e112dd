"""The interface: every name is there, in its module, with its arguments."""

import importlib
import inspect
import unittest

from noughtways.desk import Desk

FUNCTIONS = {
    "tables": "is_table(thing) tables_wrong(thing) product(one,other) along(tables,way) is_nought(table) turned(table)",
    "ranks": "rank(table) determinant(table) lost(table) line_of(row)",
    "signs": "set_led(tables,places,at) set_along(tables,places,way) sign_way(tables) sign_fence(tables)"
             " sign_fence_holds(tables,thing) sets_met(tables) first_met(tables,places)",
    "allways": "all_nought(tables) first_left(tables) stair_of(tables) stair_holds(tables,thing)",
    "orders": "order_of(tables) ring_of(tables) order_holds(tables,thing) ring_holds(tables,thing)",
    "rests": "rest_table(table,m) rest_along(tables,way,m) rest_way(tables,m) rest_fence(tables,m)"
             " rest_fence_holds(tables,m,thing) barred_by(tables)",
    "lines": "led(table,line) lost_line(table) made_line(table)",
    "twoways": "shortest(tables,most) line_way(tables,line,most) fence_of(tables,most) fence_holds(tables,thing)",
    "rowways": "row_led(tables,row,at) row_along(tables,row,way) lost_in(tables,row,most) lost_by(tables,row,m)"
               " row_fence(tables,row,m) row_fence_holds(tables,row,m,thing) column_holds(tables,row,thing)"
               " column_of(tables,row)",
    "counts": "ways_many(tables,places) fresh_many(tables,places) left_sets(tables,places) way_at(tables,places,number)"
              " way_number(tables,way) always_from(tables) ever(tables) share(tables,places)",
    "changes": "turned_all(tables) way_back(tables,way) undone(table) changed(tables,by) beside(one,other)"
               " joined(one,other) powered(tables,at,often) spread(tables,at,often,way)",
    "marks": "all_marks(size) mark_of(table) fading(size) fading_many(size) alike_marks(size) kinds_many(size)",
    "small": "pair_lengths(size) longest(size,many)",
    "texts": "table_shown(table) table_read(text) tables_shown(tables) tables_read(text)",
}


class TestInterface(unittest.TestCase):

    def test_functions_and_their_arguments(self):
        for module, functions in FUNCTIONS.items():
            held = importlib.import_module("noughtways." + module)
            for function in functions.split():
                name, behind = function[:-1].split("(")
                call = getattr(held, name)
                self.assertEqual(call.__module__, "noughtways." + module)
                self.assertEqual(list(inspect.signature(call).parameters), behind.split(","), function)

    def test_the_desk(self):
        self.assertEqual(list(inspect.signature(Desk).parameters), [])
        self.assertEqual(list(inspect.signature(Desk().say).parameters), ["row"])


if __name__ == "__main__":
    unittest.main()
