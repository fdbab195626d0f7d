"""The names of the interface: where they are defined, and which arguments they take."""

import ast
import unittest
from pathlib import Path

PACKAGE = Path(__file__).resolve().parent.parent / "selfwritten"

FUNCTIONS = {
    "widths": ["check_int(value, low, high, name)", "ones(width)", "check_words(row, width, many)"],
    "prefixes": ["part_text(pool, part)", "part_of_words(pool, words, letters)"],
    "lifting": ["lifted(pool, name, one, other, width)", "put_in(pool, part, parts)",
                "carried(pool, part, other)"],
    "bits": ["standing_parts(pool, numbers)", "first_standings(pool, demands)",
             "next_standing(pool, demands, place, standing, bits)", "is_end(pool, demands, standing)"],
    "groups": ["groups(pool, demands)"],
    "solving": ["solved(pool, limits, demands)", "how_many(pool, limits, demands)",
                "told_apart(pool, limits, one, other)"],
    "sheets": ["sheet(pool, limits, demands)", "is_sheet(pool, limits, demands, rows)"],
    "patterns": ["letters_of(patterns)", "fits(pattern, word)", "numbers_in(patterns, cells)",
                 "cells_of(patterns, numbers)", "fixed(patterns)"],
    "overlaps": ["shared_code(one, other)", "first_shared(book)"],
    "codes": ["decoded(book, cells)", "encoded(book, instruction)", "code_size(book, instruction)", "begins(book)",
              "is_full(book)"],
    "assembly": ["assembled(book, rows, *, place=0)", "listed(book, cells, *, place=0)"],
    "lines": ["is_value(line)", "registers_of(form, numbers)",
              "line_parts(pool, word, lines, registers, numbers, regs, here, after, answers)"],
    "deeds": ["run_code(book, instruction, place, regs, answers)", "named(book, instruction)",
              "whole(asks, answers, handed)"],
    "halves": ["half_run(book, name)"],
    "checking": ["check_book(book)", "is_let_by(book)"],
    "worlds": ["check_world(machine, world)", "placed(world, q, place, regs)", "with_cell(world, x, v)",
               "turn_of(machine, world)", "is_over(world)"],
    "memory": ["page_of(machine, x)", "seen(machine, world, q, x)", "settle_one(world, q)", "drained(world, q)",
               "read_by(machine, world, q, x)", "write_by(machine, world, q, x, y)"],
    "happenings": ["raised(world, q, line)", "happen(machine, world, event)",
                   "start(machine, image, places, *, rights=(7, 7, 7, 7, 7, 7, 7, 7), vectors=(None, None, None))"],
    "ports": ["asked(machine, world, q, ask)"],
    "fetching": ["fetch(machine, world, place)"],
    "closing": ["closed(machine, world)", "can_take(world, q)", "taken(world, q, cause)", "faulted(world, q, cause)"],
    "steps": ["step(machine, world)"],
    "runs": ["run(machine, world, moment)", "trail(machine, world, moment)", "kinds(machine, world, moment)",
             "leap(machine, world, moment)", "run_leaping(machine, world, moment)"],
    "meetings": ["meeting(machine, one, other, moment)", "part_of(machine, world, moment, x)"],
    "orders": ["order_word(house, name, d, x, y, n)", "order_part(pool, house, name, d, x, y, n)"],
    "rules": ["rule_left(house, word, rule, words)", "rule_part(pool, house, word, rule, parts)",
              "wrong_words(house, word, rule)", "check_rules(house, word)"],
    "rows": ["check_row(pair, row)", "segment_of(row, at)", "handed_parts(row, index)", "price(row, at)"],
    "rowruns": ["run_row(pair, row, place, regs, answers)"],
    "roads": ["straight(machine, world, entry, longest)", "along(machine, world, places)", "road_of(book, pairs)",
              "again(machine, world, road)", "holds(world, road)", "is_fresh(machine, world, road)",
              "is_there(machine, world, road)"],
    "roadruns": ["run_road(book, road, regs, answers)", "go_through(book, road, regs, answers)"],
    "templates": ["base(pair, road, i)", "template(pair, road)"],
    "roadsteps": ["stops(machine, world, q, moment, thrown)", "drive(machine, world, road, moment)"],
    "joins": ["joined(book, *roads)", "beginning(book, road, many)"],
    "sketches": ["sketch_of_road(pool, book, road)", "sketch_of_row(pool, pair, row, place)",
                 "play(sketch, regs, answers)"],
    "judging": ["judged(one, other)"],
    "letting": ["let_by(pair, road, row)", "is_let_by_judge(pair, road, row)", "dear_at(pair, road, row)"],
    "likeness": ["forms_alike(book, other, name)", "books_alike(book, other)", "codes_alike(book, one, other, place)"],
    "middle": ["middle_of(book, road)", "run_middle(middle, word, regs, answers)"],
    "passes": ["known(middle, word)", "spared(middle, word)", "once(middle, word)", "dropped(middle, word)",
               "tidy(middle, word)", "plainly(middle, word)", "now_lines(middle)", "late_lines(middle)"],
    "laying": ["laid(pair, middle)"],
    "trimming": ["trimmed(pair, road)"],
    "linking": ["lay(store, entry, place)", "linked(store, entry, place)", "links_of(store)", "force(store, entry, place)"],
    "watching": ["watch(machine, world, store)", "looked_at(store)"],
    "mending": ["good_row(pair, road, row)", "mend(machine, pair, world, store)",
                "keeping(machine, pair, world, road, row)"],
    "plans": ["check_plan(plan)", "check_offers(offers)",
              "proposed(machine, pair, world, entry, how, longest, offers)"],
    "entering": ["answer_of(machine, world, ride, limit)"],
    "cuts": ["meanings(fast, moment)", "cut(fast, moment, deeds)"],
    "counting": ["done_counts(fast)", "plain_counts(machine, world, moment)"],
    "saves": ["saved(world)", "world_of(text)"],
    "legs": ["legs_run(machine, world, legs)"],
    "requests": ["enterings_of(machine, world, moment, longest)", "requests(machine, world, moment, longest)"],
    "throwing": ["made_by(picks, row, size)", "lying(picks, row, size)", "least(row, size)", "furthest(row, size)"],
    "bills": ["bill(fast)", "keeps_bounds(fast)", "dearest(pair)",
              "bill_ahead(machine, pair, world, moment, size, picks, longest)"],
    "untils": ["until_plain(machine, world, moment, places)", "until_fast(fast, moment, places)",
               "changed_plain(machine, world, moment, x)", "changed_fast(fast, moment, x)"],
    "backwalks": ["walk_cost(length, places)", "reach(places, times)", "walk_moves(length, places)",
                  "walk_back(machine, world, length, places)"],
    "meets": ["desks_meet(one, other, moment)", "first_unlike(machine, fast, moment)"],
    "needless": ["needless_musts(book, road)", "sure_keeps(book, road)", "ever_asked(book, road)"],
}

METHODS = {
    ("pools", "Pool"): ["__init__(self, width)", "__len__(self)", "__iter__(self)", "ops()", "num(self, value)",
                        "unknown(self, number)", "apply(self, name, one, other)", "part(self, number)",
                        "value(self, number, words)", "reached(self, number)", "unknowns(self, numbers)",
                        "chosen(self, test, one, other)", "carry(self, one, other)"],
    ("books", "Form"): [],
    ("books", "Book"): ["__init__(self, word, registers, forms)", "read(cls, text)", "text(self)",
                        "form_named(self, name)", "__eq__(self, other)"],
    ("machines", "Machine"): ["__init__(self, book, *, depth=0, events=(), turns=((0, 1),), processors=1)",
                              "due(self, moment)", "next_due(self, moment)"],
    ("worlds", "Processor"): ["facts(self)", "ended(self)"],
    ("worlds", "World"): ["facts(self)", "__eq__(self, other)"],
    ("houses", "House"): ["__init__(self, width, registers, orders, rules)", "read(cls, text)", "text(self)",
                          "order_named(self, name)", "__eq__(self, other)"],
    ("pairs", "Pair"): ["__init__(self, book, house, *, longest=8)", "c(self)", "d(self)", "r(self)",
                        "rule_for(self, op)", "line_cost(self, line)", "cost(self, name)"],
    ("rows", "Row"): ["__init__(self, steps, late, hands)", "__eq__(self, other)"],
    ("rowruns", "Running"): ["__init__(self, pair, row, place, regs)", "pending(self)", "go(self, answer=None)",
                             "hand(self, index)", "copy(self)"],
    ("roads", "Road"): ["entry(self)", "__len__(self)", "__iter__(self)", "__eq__(self, other)"],
    ("middle", "Middle"): ["__init__(self, lines, marks)", "__eq__(self, other)"],
    ("stores", "Told"): ["__init__(self, numbers)", "__call__(self, entries)"],
    ("stores", "Store"): ["__init__(self, size, *, picks='oldest', links=True)", "__len__(self)",
                          "__contains__(self, entry)", "entries(self)", "road_at(self, entry)", "row_at(self, entry)",
                          "made_order(self)", "used_order(self)", "put(self, road, row)", "use(self, entry)",
                          "throw(self, entry)"],
    ("entering", "Ride"): ["__init__(self, pair, road, row, q, place, regs, moment)"],
    ("fasts", "Fast"): ["__init__(self, machine, pair, world, *, size=4, picks='oldest', links=True, plan=((1, 4),), "
                        "offers=(), forced=())", "deed(self, moment)", "run(self, moment)", "meaning(self)",
                        "riding(self)", "enterings(self)", "lefts(self)"],
    ("desks", "Desk"): ["__init__(self, machine, world, *, every=8, fast=None)", "kept_moments(self)",
                        "stand_at(self, moment)", "back(self, steps)", "put_cell(self, x, word)", "trying(self)",
                        "tried(self, moment, x, word)"],
    ("sketches", "Sketch"): ["__init__(self, pool, word, registers, items)"],
}


def heads(body):
    """The names and parameters of the functions that stand in a body."""
    found = []
    for node in body:
        if isinstance(node, ast.FunctionDef):
            found.append(f"{node.name}({ast.unparse(node.args)})")
    return found


class Interface(unittest.TestCase):
    def test_functions(self):
        for name, wanted in FUNCTIONS.items():
            tree = ast.parse((PACKAGE / (name + ".py")).read_text())
            for head in wanted:
                self.assertIn(head, heads(tree.body), name)

    def test_methods(self):
        for (name, owner), wanted in METHODS.items():
            tree = ast.parse((PACKAGE / (name + ".py")).read_text())
            own = [node for node in tree.body if isinstance(node, ast.ClassDef) and node.name == owner]
            self.assertEqual(len(own), 1, owner)
            for head in wanted:
                self.assertIn(head, heads(own[0].body), owner)

    def test_properties(self):
        from selfwritten.pairs import Pair
        for name in "cdr":
            self.assertIsInstance(vars(Pair)[name], property)

    def test_static_and_class_methods(self):
        from selfwritten.books import Book
        from selfwritten.pools import Pool
        self.assertIsInstance(vars(Pool)["ops"], staticmethod)
        self.assertIsInstance(vars(Book)["read"], classmethod)
        from selfwritten.houses import House
        self.assertIsInstance(vars(House)["read"], classmethod)


if __name__ == "__main__":
    unittest.main()
