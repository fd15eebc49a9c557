"""The form of the code: the interface and the rules of ../shared/LANGUAGE.md that can be seen in a file by itself."""

import ast
import builtins
import unittest
from pathlib import Path

PACKAGE = Path(__file__).resolve().parent.parent / "choosersrow"
# The builtins that may be used.
BUILTINS = set("""len range enumerate zip min max sum abs sorted reversed int str bool bytes list tuple dict set
    isinstance ord repr any all divmod pow iter next super ValueError KeyError TypeError NotImplemented""".split())
METHODS = set("""append clear copy count endswith extend find get index insert items join keys ljust pop remove
    replace reverse rjust setdefault sort split startswith strip update values bit_length""".split())
# The names that nothing may be given.
BARRED = set(dir(builtins)) | set("""register mro elements law version_info typing enum gc os sys law importlib
    attrgetter methodcaller""".split())
DECORATORS = ("property", "staticmethod", "classmethod")
STATEMENTS = (ast.Import, ast.Global, ast.AsyncFunctionDef, ast.AsyncFor, ast.AsyncWith, ast.Await, ast.Div)

# The file, the function or the class with its method, and the parameters.
INTERFACE = {
    "terms": {"write_term": "term", "read_term": "text"},
    "walks": {"count_choices": "widths", "choice_at": "widths, index", "choice_index": "widths, choice",
              "all_choices": "widths"},
    "aims": {"Aim.__init__": "self, term, options, outcomes", "Aim.good": "self, context", "Aim.__or__": "self, other",
             "Aim.__and__": "self, other", "Aim.__sub__": "self, other", "Aim.__invert__": "self",
             "Aim.text": "self", "Aim.read": "text"},
    "choosers": {"Chooser.__init__": "self, options, outcomes, row", "Chooser.__call__": "self, context",
                 "Chooser.__mul__": "self, other", "Chooser.__pow__": "self, other", "Chooser.text": "self",
                 "Chooser.read": "text", "Chooser.constant": "options, outcomes, option", "Chooser.first_good": "aim"},
    "games": {"Game.__init__": "self, outcomes, tree", "Game.plans": "self", "Game.__iter__": "self",
              "Game.with_ends": "self, ends", "Game.part": "self, way", "Game.text": "self", "Game.read": "text"},
    "aimtables": {"aim_table": "aim", "table_aim": "aim", "unmet_context": "aim", "parting_context": "first, second",
                  "is_within": "first, second", "is_fair": "aim", "fair_hull": "aim", "fair_core": "aim"},
    "orders": {"dense_ranks": "ranks", "opposite_ranks": "ranks", "dense_orders": "outcomes", "order_of": "aim"},
    "choosing": {"meets_aim": "chooser, aim", "missed_context": "chooser, aim", "count_meeting": "aim",
                 "meeting_at": "aim, index", "meeting_index": "aim, chooser",
                 "meeting_choosers": "aim, *, start=0, most=64", "made_aim": "chooser", "plain_chooser": "chooser",
                 "choose_alike": "first, second", "followed_orders": "chooser"},
    "turns": {"split_option": "sizes, option, /", "join_option": "sizes, pair, /", "put_behind": "first, nexts",
              "faced_context": "first, nexts, context", "put_in_turn": "first, *rest", "take_apart": "chooser, sizes"},
    "turnaims": {"aim_behind": "first, nexts", "aims_in_turn": "first, *rest",
                 "choosers_to": "first, nexts, context, option"},
    "plays": {"require_plan": "game, plan", "play_out": "game, plan", "outcomes_under": "game, plan",
              "contexts_under": "game, plan", "faulty_nodes": "game, plan", "is_optimal": "game, plan"},
    "optimal": {"plan_by": "game, choosers", "choosers_for": "game, plan", "optimal_plans": "game"},
    "grafting": {"graft_games": "game, games", "join_plans": "game, plan, games, plans",
                 "cut_plan": "game, plan, way", "level_game": "outcomes, levels, ends"},
    "gamevalues": {"node_values": "game", "game_value": "game", "good_leaves": "game", "optimal_options": "game",
                   "optimal_outcomes": "game"},
    "counting": {"count_plans": "game", "count_from": "game, prefix", "plan_at": "game, index",
                 "plan_index": "game, plan", "plans_from": "game, *, start=0, most=64",
                 "plan_to": "game, *, outcome", "mended_plan": "game, plan"},
    "barring": {"unmet_nodes": "game", "barring_ends": "game"},
    "composing": {"composed_aim": "game", "composed_chooser": "game, choosers", "parting_ends": "game, other",
                  "flatten_game": "game"},
    "shortening": {"node_orders": "game", "shorten_game": "game"},
    "duels": {"node_sides": "game", "duel_winner": "game", "winning_plan": "game",
              "is_winning": "game, plan, *, outcome", "threshold_duel": "game, ranks, *, least"},
    "certificates": {"certified_outcome": "game, leaves", "least_certificate": "game", "pivot_leaves": "game"},
    "queries": {"Query.__init__": "self, term, widths, outcomes", "Query.__call__": "self, row",
                "Query.__invert__": "self", "Query.__and__": "self, other", "Query.__or__": "self, other",
                "Query.__xor__": "self, other", "Query.text": "self", "Query.read": "text",
                "looked_places": "query, row", "fix_place": "query, place, option", "query_tail": "query, option",
                "join_queries": "first, second, table, outcomes"},
    "settling": {"settle_query": "query", "needed_places": "query", "query_reach": "query",
                 "least_row": "query, outcome", "parting_row": "first, second", "count_heads": "query",
                 "head_at": "query, outcome, index", "head_index": "query, head"},
    "tracing": {"trace_query": "function, widths, outcomes"},
    "rowgames": {"row_game": "query, aims", "choose_row": "query, choosers, length", "row_by": "query, choosers",
                 "outcome_by": "query, choosers", "best_row": "query, ranks"},
    "quantified": {"quantified_truth": "query, words", "find_row": "function, widths",
                   "every_row": "function, widths"},
    "loosegames": {"LooseGame.__init__": "self, outcomes, stands", "LooseGame.text": "self", "LooseGame.read": "text",
                   "round_way": "loose", "way_lengths": "loose"},
    "loosevalues": {"stand_values": "loose", "require_stand_plan": "loose, plan", "is_stand_optimal": "loose, plan",
                    "stand_plans": "loose", "stand_ends": "loose"},
    "unfolding": {"unfold_game": "loose", "unfolded_plan": "loose, plan", "cut_game": "loose, *, length, outcome",
                  "fold_game": "game"},
    "tablegames": {"TableGame.__init__": "self, outcomes, table, aims", "TableGame.text": "self",
                   "TableGame.read": "text", "outcome_of": "tablegame, play", "faced_by": "tablegame, play, player",
                   "leaving_players": "tablegame, play", "rest_plays": "tablegame"},
    "plantables": {"plan_table": "game", "play_of": "game, plan", "plan_of": "game, play",
                   "in_turn_game": "tablegame"},
    "desk": {"Desk.__init__": "self, outcomes", "Desk.put": "self, name, kind, term", "Desk.drop": "self, name",
             "Desk.rename": "self, old, new", "Desk.run": "self, *edits", "Desk.undo": "self", "Desk.redo": "self",
             "Desk.keep": "self, limit", "Desk.names": "self", "Desk.steps": "self", "Desk.undone": "self",
             "Desk.limit": "self", "Desk.limit.setter": "self, value", "Desk.__contains__": "self, x",
             "Desk.kind_of": "self, name", "Desk.term_of": "self, name", "Desk.worked_term": "self, name",
             "Desk.make_game": "self, name", "Desk.make_aim": "self, name, options",
             "Desk.needed_names": "self, name", "Desk.using_names": "self, name", "Desk.text": "self",
             "Desk.read": "text"},
    "deskreports": {"report_lines": "desk"},
    "rows": {"Row.__init__": "self, head, cycle=(0,)", "Row.__getitem__": "self, at", "Row.__iter__": "self",
             "Row.start": "self, length", "Row.least": "self", "Row.after": "self, count",
             "Row.lead": "self, entries", "same_rows": "first, second"},
}
STATIC = ["Aim.read", "Chooser.read", "Chooser.constant", "Chooser.first_good", "Game.read", "Query.read",
          "LooseGame.read", "TableGame.read", "Desk.read"]
PROPERTIES = ["Game.plans", "Desk.names", "Desk.steps", "Desk.undone", "Desk.limit"]


def files():
    return sorted(PACKAGE.glob("*.py"))


def parsed(path):
    return ast.parse(path.read_text("ascii"))


def marks_of(node):
    """Return the decorators of a function."""
    return [ast.unparse(mark) for mark in node.decorator_list]


def definitions(tree):
    """Return a dict of the functions and methods that a file defines; setters have names of their own."""
    found = {}
    for node in tree.body:
        if isinstance(node, ast.FunctionDef):
            found[node.name] = node
        if isinstance(node, ast.ClassDef):
            found[node.name] = node
            for part in node.body:
                if isinstance(part, ast.FunctionDef):
                    setter = ".setter" if f"{part.name}.setter" in marks_of(part) else ""
                    found[f"{node.name}.{part.name}{setter}"] = part
    return found


def top_names(tree):
    """Return the names that a file binds at module level itself, in order."""
    names = []
    for node in tree.body:
        if isinstance(node, (ast.FunctionDef, ast.ClassDef)):
            names.append(node.name)
        if isinstance(node, ast.Assign):
            names.extend(target.id for target in node.targets)
    return names


class TestInterface(unittest.TestCase):
    def test_defined_where_listed(self):
        for name, parts in INTERFACE.items():
            found = definitions(parsed(PACKAGE / f"{name}.py"))
            for part, parameters in parts.items():
                self.assertIn(part, found, name)
                self.assertEqual(ast.unparse(found[part].args), parameters, part)

    def test_static_methods_and_properties(self):
        for name in INTERFACE:
            for part, node in definitions(parsed(PACKAGE / f"{name}.py")).items():
                if isinstance(node, ast.FunctionDef):
                    marks = marks_of(node)
                    self.assertEqual("staticmethod" in marks, part in STATIC, part)
                    self.assertEqual("property" in marks, part in PROPERTIES, part)

    def test_classes(self):
        for name, part in [("aims", "Aim"), ("choosers", "Chooser"), ("games", "Node"), ("games", "Game"),
                           ("rows", "Row"), ("queries", "Query"), ("loosegames", "LooseGame"),
                           ("tablegames", "TableGame"), ("desk", "Desk")]:
            self.assertIsInstance(definitions(parsed(PACKAGE / f"{name}.py")).get(part), ast.ClassDef)


class TestFiles(unittest.TestCase):
    def test_folder(self):
        for path in PACKAGE.iterdir():
            if path.name != "__pycache__":
                self.assertRegex(path.name, r"\A(__init__|[a-z]+)\.py\Z")

    def test_characters_and_lengths(self):
        for path in files():
            lines = path.read_bytes().split(b"\n")
            self.assertLessEqual(len(lines), 399, path.name)
            for line in lines:
                self.assertLessEqual(len(line), 120, path.name)
                self.assertTrue(all(32 <= sign <= 126 for sign in line), line)

    def test_functions(self):
        for path in files():
            for node in ast.walk(parsed(path)):
                if isinstance(node, ast.FunctionDef):
                    self.assertLessEqual(node.end_lineno - node.lineno + 1, 40, (path.name, node.name))
                    for mark in node.decorator_list:
                        self.assertIn(ast.unparse(mark).split(".")[-1], DECORATORS + ("setter",))

    def test_module_level(self):
        for path in files():
            tree = parsed(path)
            for node in tree.body:
                plain = isinstance(node, (ast.ImportFrom, ast.FunctionDef, ast.ClassDef, ast.Assign))
                self.assertTrue(plain or ast.get_docstring(tree) and node is tree.body[0], (path.name, node.lineno))
            names = top_names(tree)
            self.assertEqual(len(names), len(set(names)), path.name)

    def test_imports(self):
        uses = {}
        for path in files():
            uses[path.stem] = []
            for node in ast.walk(parsed(path)):
                if isinstance(node, ast.ImportFrom):
                    self.assertRegex(node.module, r"\Achoosersrow\.[a-z]+\Z")
                    home = node.module.split(".")[1]
                    uses[path.stem].append(home)
                    for name in node.names:
                        self.assertIsNone(name.asname)
                        self.assertIn(name.name, top_names(parsed(PACKAGE / f"{home}.py")), path.name)
        done = []
        while len(done) < len(uses):
            ready = [name for name in uses if name not in done and all(home in done for home in uses[name])]
            self.assertTrue(ready, "files import each other")
            done.extend(ready)

    def test_imports_are_used(self):
        for path in files():
            tree = parsed(path)
            used = {node.id for node in ast.walk(tree) if isinstance(node, ast.Name)}
            for node in tree.body:
                if isinstance(node, ast.ImportFrom):
                    for name in node.names:
                        self.assertIn(name.name, used, path.name)

    def test_names(self):
        for path in files():
            tree = parsed(path)
            bound = {node.arg for node in ast.walk(tree) if isinstance(node, ast.arg)}
            bound |= {node.id for node in ast.walk(tree) if isinstance(node, ast.Name)
                      and isinstance(node.ctx, ast.Store)}
            bound |= {node.name for node in ast.walk(tree) if isinstance(node, ast.ExceptHandler)}
            bound |= set(top_names(tree))
            self.assertFalse(bound & BARRED, path.name)
            imported = {name.name for node in tree.body if isinstance(node, ast.ImportFrom) for name in node.names}
            self.assertFalse(bound & imported, path.name)
            for node in ast.walk(tree):
                self.assertNotIsInstance(node, STATEMENTS, (path.name, getattr(node, "lineno", 0)))
                if isinstance(node, ast.Name) and isinstance(node.ctx, ast.Load):
                    known = bound | imported | BUILTINS | set(DECORATORS)
                    self.assertIn(node.id, known, (path.name, node.lineno))

    def test_methods(self):
        trees = [parsed(path) for path in files()]
        own = {name.split(".")[1] for tree in trees for name in definitions(tree) if "." in name}
        for tree in trees:
            for node in ast.walk(tree):
                if isinstance(node, ast.Call) and isinstance(node.func, ast.Attribute):
                    self.assertIn(node.func.attr, METHODS | own, node.lineno)

    def test_strings_and_powers(self):
        for path in files():
            for node in ast.walk(parsed(path)):
                if isinstance(node, ast.Constant) and isinstance(node.value, str):
                    self.assertNotIn("%", node.value, path.name)
                if isinstance(node, ast.BinOp):
                    self.assertNotIsInstance(node.op, ast.Pow, path.name)
