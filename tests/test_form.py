"""The form of the package: its files, its interface, and the rules of form that a test can see."""

import ast
import inspect
import importlib
import pathlib
import unittest

import knownguards

FOLDER = pathlib.Path(knownguards.__file__).parent

INTERFACE = {
    "wholes": {"is_whole": "thing low high", "is_sequence": "thing"},
    "steps": {"check_step": "step cells place"},
    "lots": {
        "check_program": "lot program", "step_of": "lot program place", "function_shape": "step",
        "Lot": "cells programs",
    },
    "weavings": {
        "check_weaving": "lot weaving", "check_row": "lot row", "weaving_count": "sizes", "all_weavings": "lot",
        "unwoven_weavings": "lot", "is_unwoven": "lot weaving", "row_weaving": "lot row",
        "placed_steps": "lot weaving", "weaving_without": "lot weaving program",
    },
    "facts": {
        "is_fact": "lot fact", "cells_floor": "lot", "with_facts": "lot facts", "own_facts": "lot",
        "facts_borne": "lot facts",
    },
    "lottexts": {
        "lot_text": "lot", "lot_of_text": "text", "weaving_text": "lot weaving", "weaving_of_text": "lot text",
        "fact_text": "lot fact", "fact_of_text": "lot text",
    },
    "worths": {
        "is_worth": "thing", "begun_store": "cells", "made_worth": "name worths",
        "added_worth": "worth name worths", "parts_of": "worth", "bags_within": "worth", "closed_worths": "worths",
        "worth_text": "worth",
    },
    "outcomes": {
        "outcome_of": "lot weaving", "store_moments": "lot weaving", "pockets_of": "lot weaving",
        "outcome_of_wholes": "lot row",
    },
    "lengths": {
        "split_of": "lot weaving", "lengths_bar": "lot weaving", "House": "lot modulus tables start stores",
    },
    "orders": {
        "meetings_of": "lot weaving", "check_order": "lot programs", "order_fault": "lot weaving programs",
        "all_orders": "lot weaving", "order_for": "lot weaving", "ring_fault": "lot weaving ring",
        "swap_walk": "lot weaving programs", "Order": "programs", "Ring": "links",
    },
    "smallhouses": {
        "told_worths": "lot weaving", "check_small": "house store", "small_begin": "house",
        "small_step": "house store program", "small_run": "house store weaving", "small_row": "house store row",
        "stores_from": "house store", "SmallHouse": "lot worths",
    },
    "letting": {
        "letting": "lot weaving", "is_let": "lot weaving", "let_weavings": "lot", "knows_less": "lot facts more",
        "Let": "row", "Bar": "worths start stores",
    },
    "bars": {"let_fault": "lot weaving let", "bar_fault": "lot weaving bar"},
    "meanings": {
        "check_meaning": "lot meaning", "all_stores": "lot modulus", "check_store": "lot meaning store",
        "run_weaving": "lot meaning weaving store", "run_moments": "lot meaning weaving store",
        "run_program": "lot meaning program store", "run_wholes": "lot meaning row store",
        "Meaning": "modulus tables",
    },
    "reading": {"read_worth": "lot meaning worth store", "read_store": "lot meaning worths store"},
    "closedlots": {
        "closed_lot": "lot meaning store", "way_to": "lot meaning store goal", "lets_under": "lot meaning weaving",
        "let_under": "lot meaning", "one_row": "lot meaning weaving", "Ends": "rows", "Breaks": "store stores",
    },
    "bits": {
        "cells_meaning": "lot meaning", "bit_bar": "lot weaving", "bit_fault": "lot weaving bar",
        "house_meaning": "house", "BitBar": "meaning store stores",
    },
    "leastfacts": {
        "check_pool": "lot pool", "check_wish": "lot wish", "facts_let": "lot facts wish",
        "least_facts": "lot pool wish", "barring_facts": "lot pool wish", "facts_fault": "lot facts wish",
        "same_let": "lot one other", "idle_facts": "lot pool", "fullest_facts": "lot pool facts",
    },
    "houselaws": {
        "check_stores": "lot meaning stores", "rule_fault": "lot meaning stores",
        "right_fault": "lot meaning stores weaving", "least_rule": "lot meaning stores weavings",
        "greatest_rule": "lot meaning stores weavings", "kept_rules": "lot meaning", "single_rules": "lot meaning",
        "least_broken": "lot meaning weaving", "right_weavings": "lot meaning stores",
        "brought_along": "lot meaning weavings",
    },
    "guards": {
        "begins_let": "guard row", "next_let": "guard row", "lets_no_more": "guard other", "judged_guard": "guard",
        "Guard": "lot weavings",
    },
    "live": {
        "run_order": "guard order", "live_events": "guard order", "Live": "guard",
        "Granted": "program place freed", "Held": "program", "Run": "weaving holds events",
    },
    "shares": {
        "first_hold": "guard order", "held_orders": "guard", "share_of": "guard", "mean_holds": "guard",
    },
    "sources": {
        "counted_looks": "lot", "find_sources": "lot weaving program place", "last_sources": "lot weaving",
    },
    "elder": {
        "late_look": "lot weaving order", "elder_letting": "lot weaving", "elder_weavings": "lot",
        "weavings_of_order": "lot order", "elder_pockets": "lot weaving order", "elder_final": "lot weaving order",
        "elder_looks": "lot weaving order", "fewest_elder": "lot weaving", "elder_walk": "lot weaving order",
        "EveryLate": "looks", "FewestElder": "programs looks",
    },
    "edits": {"edited_lot": "lot edit", "edited_through": "lot edits"},
    "mends": {
        "check_goals": "goals", "goal_met": "lot goal", "find_mends": "lot pool goals",
        "mend_fault": "lot pool goals places",
    },
    "bench": {"Bench": "lot"},
}

METHODS = {
    ("lots", "Lot"): {
        "renamed": "self", "with_program": "self steps", "without_program": "self program", "__eq__": "self other",
        "__len__": "self", "__iter__": "self",
    },
    ("lengths", "House"): {"__eq__": "self other"},
    ("orders", "Order"): {"__eq__": "self other"},
    ("orders", "Ring"): {"__eq__": "self other"},
    ("smallhouses", "SmallHouse"): {
        "number_of": "self worth", "made_number": "self name numbers", "added_number": "self number name numbers",
    },
    ("letting", "Let"): {"__eq__": "self other"},
    ("letting", "Bar"): {"__eq__": "self other"},
    ("meanings", "Meaning"): {"table_of": "self name", "__eq__": "self other"},
    ("closedlots", "Ends"): {"__eq__": "self other"},
    ("closedlots", "Breaks"): {"__eq__": "self other"},
    ("bits", "BitBar"): {"__eq__": "self other"},
    ("guards", "Guard"): {
        "__len__": "self", "__iter__": "self", "__contains__": "self weaving", "__eq__": "self other",
        "greatest": "lot", "unwoven": "lot", "whole": "lot",
    },
    ("live", "Live"): {"ask": "self program", "way_out": "self program"},
    ("live", "Granted"): {"__eq__": "self other"},
    ("live", "Held"): {"__eq__": "self other"},
    ("live", "Run"): {"__eq__": "self other"},
    ("elder", "EveryLate"): {"__eq__": "self other"},
    ("elder", "FewestElder"): {"__eq__": "self other"},
    ("bench", "Bench"): {
        "make": "self edit", "take_back": "self", "trial": "self edits goals", "lots_made": "self", "__len__": "self",
        "__iter__": "self",
    },
}

PROPERTIES = {
    ("lots", "Lot"): ("sizes", "total"), ("live", "Live"): ("granted", "held", "finished"),
    ("bench", "Bench"): ("current", "log"),
}

GENERATORS = {("houselaws", "kept_rules"), ("live", "live_events"), ("elder", "weavings_of_order")}

LIBRARY = {"heapq", "math", "itertools", "collections"}

CHANGING = {
    "append", "clear", "extend", "insert", "pop", "remove", "reverse", "setdefault", "update", "sort", "add", "discard",
}


def sources():
    """The files of the package and their texts."""
    return {path.name: path.read_text("utf-8") for path in sorted(FOLDER.glob("*.py"))}


def one_thing(function):
    """For each name of the function, all names that some assignment gives to the same thing."""
    groups = {}
    for node in ast.walk(function):
        if isinstance(node, ast.Assign):
            names = [thing.id for thing in (*node.targets, node.value) if isinstance(thing, ast.Name)]
            if len(names) > 1:
                joined = set(names).union(*[groups.get(name, {name}) for name in names])
                for name in joined:
                    groups[name] = joined
    return groups


def walked(node):
    """The names and attributes that a loop iterates over as they are, also through enumerate and the like."""
    if isinstance(node, ast.Call) and isinstance(node.func, ast.Name):
        if node.func.id in ("enumerate", "zip", "reversed"):
            return [found for argument in node.args for found in walked(argument)]
        return []
    if isinstance(node, ast.Call) and isinstance(node.func, ast.Attribute):
        return walked(node.func.value) if node.func.attr in ("items", "keys", "values") else []
    if isinstance(node, (ast.IfExp, ast.BoolOp)):
        parts = [node.body, node.orelse] if isinstance(node, ast.IfExp) else node.values
        return [found for part in parts for found in walked(part)]
    return [ast.unparse(node)] if isinstance(node, (ast.Name, ast.Attribute, ast.Subscript)) else []


def changed(body):
    """What rows of a loop change: by a method, an item, del or +=."""
    for node in [node for row in body for node in ast.walk(row)]:
        if isinstance(node, ast.Call) and isinstance(node.func, ast.Attribute) and node.func.attr in CHANGING:
            yield ast.unparse(node.func.value)
        if isinstance(node, ast.Subscript) and not isinstance(node.ctx, ast.Load):
            yield ast.unparse(node.value)
        if isinstance(node, ast.AugAssign):
            yield ast.unparse(node.target)


def walked_and_changed(text):
    """The lines of loops that change what they iterate over, by its name or by another name of the same thing."""
    lines = []
    for function in ast.walk(ast.parse(text)):
        if isinstance(function, ast.FunctionDef):
            groups = one_thing(function)
            for loop in ast.walk(function):
                if isinstance(loop, ast.For):
                    names = {name for found in walked(loop.iter) for name in groups.get(found, {found})}
                    if names & set(changed(loop.body)):
                        lines.append(loop.lineno)
    return lines


class InterfaceTest(unittest.TestCase):
    def test_each_name_is_defined_in_its_own_file_with_its_arguments(self):
        for module, names in INTERFACE.items():
            found = importlib.import_module(f"knownguards.{module}")
            for name, arguments in names.items():
                with self.subTest(module=module, name=name):
                    thing = getattr(found, name)
                    self.assertEqual(thing.__module__, f"knownguards.{module}")
                    self.assertEqual(" ".join(inspect.signature(thing).parameters), arguments)

    def test_each_method_stands_in_its_own_class_with_its_arguments(self):
        for (module, name), methods in METHODS.items():
            found = getattr(importlib.import_module(f"knownguards.{module}"), name)
            for method, arguments in methods.items():
                with self.subTest(module=module, name=name, method=method):
                    self.assertIn(method, vars(found))
                    self.assertEqual(" ".join(inspect.signature(vars(found)[method]).parameters), arguments)

    def test_each_property_stands_in_its_own_class(self):
        for (module, name), properties in PROPERTIES.items():
            found = getattr(importlib.import_module(f"knownguards.{module}"), name)
            for told in properties:
                with self.subTest(module=module, name=name, property=told):
                    self.assertIsInstance(vars(found)[told], property)

    def test_generators_and_no_others(self):
        for module, names in INTERFACE.items():
            found = importlib.import_module(f"knownguards.{module}")
            for name in names:
                with self.subTest(module=module, name=name):
                    self.assertEqual(inspect.isgeneratorfunction(getattr(found, name)), (module, name) in GENERATORS)

    def test_weavings_may_be_left_out_where_rules_are_made(self):
        found = importlib.import_module("knownguards.houselaws")
        for name in ("least_rule", "greatest_rule"):
            self.assertEqual(inspect.signature(getattr(found, name)).parameters["weavings"].default, ())


class FormTest(unittest.TestCase):
    def test_the_folder_holds_nothing_but_python_files(self):
        others = [path.name for path in FOLDER.iterdir() if path.suffix != ".py" and path.name != "__pycache__"]
        self.assertEqual(others, [])
        self.assertTrue((FOLDER / "__init__.py").exists())

    def test_sizes_and_signs(self):
        for name, text in sources().items():
            with self.subTest(name):
                lines = text.splitlines()
                self.assertLessEqual(len(lines), 399)
                self.assertLessEqual(max(len(line) for line in lines), 120)
                self.assertTrue(all(sign == "\n" or " " <= sign <= "~" for sign in text))

    def test_functions_have_at_most_40_lines(self):
        for name, text in sources().items():
            for node in ast.walk(ast.parse(text)):
                if isinstance(node, ast.FunctionDef):
                    with self.subTest(name, function=node.name):
                        self.assertLessEqual(node.end_lineno - node.lineno + 1, 40)

    def test_imports_are_of_the_package_and_of_the_allowed_library(self):
        for name, text in sources().items():
            for node in ast.walk(ast.parse(text)):
                self.assertNotIsInstance(node, ast.Import, name)
                if isinstance(node, ast.ImportFrom):
                    with self.subTest(name, module=node.module):
                        self.assertEqual(node.level, 0)
                        self.assertTrue(node.module in LIBRARY or node.module.startswith("knownguards."))

    def test_what_a_loop_walks_is_not_changed_in_it(self):
        for name, text in sources().items():
            with self.subTest(name):
                self.assertEqual(walked_and_changed(text), [])

    def test_loops_that_change_what_they_walk_are_found(self):
        loops = (
            "for x in xs:\n  xs.append(x)", "for k, x in enumerate(xs):\n  xs[k] = 0", "for k in d.items():\n  del d[k]",
            "for x in self.xs:\n  self.xs.pop()", "ys = []\n while xs:\n  for x in xs:\n   ys.append(x)\n  xs = ys",
            "for x in xs if c else ys:\n  ys.append(x)", "for x in xs:\n  xs += [x]",
        )
        for loop in loops:
            self.assertNotEqual(walked_and_changed("def told(self, xs, ys, d, c):\n " + loop), [], loop)
        for loop in ("for x in list(xs):\n  xs.append(x)", "for x in xs:\n  ys.append(x)"):
            self.assertEqual(walked_and_changed("def told(self, xs, ys, d, c):\n " + loop), [], loop)

    def test_any_and_its_kin_take_no_generator_expression(self):
        for name, text in sources().items():
            for node in ast.walk(ast.parse(text)):
                with self.subTest(name, line=getattr(node, "lineno", 0)):
                    self.assertNotIsInstance(node, ast.GeneratorExp)


if __name__ == "__main__":
    unittest.main()
