"""The interface as it is written, and the rules of form that a test can see."""

import ast
import builtins
import unittest
from pathlib import Path

PACKAGE = Path(__file__).resolve().parent.parent / "evenorders"
FILES = sorted(PACKAGE.glob("*.py"))
TREES = {path.stem: ast.parse(path.read_text()) for path in FILES}

INTERFACE = {
    "webs": ["ahead_of(web, name)", "behind_of(web, name)", "may_come(web, lot)",
             "straight(web)", "open_pairs(web)", "closed_lots(web)"],
    "making": ["turned(web)", "renamed(web, names)", "part(web, lot)", "side_by_side(one, other)",
               "one_behind(one, other)", "with_before(web, one, other)",
               "without_before(web, one, other)", "naming(one, other)"],
    "lines": ["longest(web)", "widest(web)", "lines(web)", "is_lines(web, thing)"],
    "orders": ["is_order(web, thing)", "count(web)", "order_number(web, order)", "rest(web, lot)",
               "orders(web)", "order_at(web, number)"],
    "rowsets": ["common_web(rows)", "are_all(rows)", "fewest_rows(web)"],
    "exchanging": ["exchanges(web, order)", "way_there(web, one, other)", "far(web, one, other)",
                   "is_way_there(web, one, other, thing)", "farthest(web)"],
    "shares": ["place_share(web, name, place)", "ahead_share(web, one, other)",
               "mean_place(web, name)", "next_shares(web, lot)"],
    "ways": ["chance(web, way, order)", "chances(web, way)", "number_rows(web, order)",
             "numbers_web(web, order)", "even(web, way)", "still_even(web, way, lot)",
             "likeliest(web, way)", "unlikeliest(web, way)"],
    "levels": ["levels(web)", "three(web)", "unlike(web, way)", "is_unlike(web, way, thing)"],
    "favour": ["place_chance(web, way, name, place)", "unevenness(web, way)", "favour(web, way)",
               "least_uneven(web)", "fair(web, way)"],
    "changes": ["to_levels(web)", "to_levels_by(web, word)"],
    "gaps": ["gaps(web, row, name)", "gap_chance(web, calling, order)"],
    "callings": ["even_calling(web, calling)", "is_moment(web, calling, thing)",
                 "end_even(web, calling)", "moment(web, calling)", "calling(web)", "an_n(web)",
                 "two_pairs(web)", "count_callings(web)", "calling_number(web, calling)",
                 "calling_at(web, number)"],
    "nearest": ["gap_unevenness(web, calling)", "nearest_calling(web)"],
    "terms": ["web_of(term)", "is_term(thing)", "term_of(web)", "term_count(term)"],
    "tickets": ["ticket_chance(web, tickets, order)", "even_tickets(web, tickets)",
                "is_forest(web)", "tickets(web)", "hooks(web)"],
    "rings": ["ring(web)", "is_ring(web, thing)"],
    "books": ["is_book(thing)", "even_book(web, book)", "book_chance(web, book, order)",
              "unlike_by(web, book)", "books_part(one, other, many)", "always_even(book, many)"],
    "asks": ["fewest_asks(web)", "most_asks(web)", "lucky(web, order)", "first_asks(web)",
             "pieces(web)", "must_ask(web, order)", "no_saving(web)", "saving(web)"],
    "trees": ["ask_tree(web)", "is_tree(web, thing)", "asked(tree, order)"],
    "askers": ["asks_of(web, asker, order)", "worst_of(web, asker)", "cheapest_asks(web, prices)",
               "cheap_first(web, prices)"],
    "listing": ["webs(many)", "kinds(many)", "count_webs(many, sort)", "sorts(web)"],
    "strangers": ["drawn(web, drawer, order)", "judged(web, drawer)"],
    "texts": ["web_text(web)", "order_text(order)", "term_text(term)", "book_text(book)"],
    "reading": ["read_web(text)", "read_order(text)", "read_term(text)", "read_book(text)"],
}
CLASSES = {
    ("webs", "Web"): ["__init__(self, many, befores)", "__eq__(self, other)"],
    ("draws", "Draw"): ["__init__(self, web)", "come(self, name)", "end(self, name)", "leave(self, name)",
                        "learn(self, one, other)", "front(self)", "back_row(self)", "may_come(self)",
                        "may_end(self)", "left(self)", "rest(self)", "shares(self)", "undo(self)",
                        "deeds(self)", "copy(self)", "trying(self, action)"],
    ("desk", "Desk"): ["__init__(self)", "tell(self, line)", "undoable(self)"],
}
# The interface has functions and parameters of one name in one file.
LISTED_TWICE = {("callings", "calling"), ("tickets", "tickets")}

LIBRARY = {
    "heapq": {"heappush", "heappop", "heapify", "heapreplace", "heappushpop"},
    "math": {"gcd", "lcm", "isqrt", "comb", "perm", "factorial"},
    "itertools": {"product", "combinations", "permutations"},
}
LIBRARY_NAMES = set().union(*LIBRARY.values())
BUILTINS = set(
    "len range enumerate zip min max sum abs sorted reversed int str bool list tuple dict set "
    "isinstance ord repr any all divmod Exception ValueError".split())
METHODS = set(
    "append clear copy count endswith extend find get index insert isalnum isalpha isdigit items "
    "join keys ljust lower lstrip partition pop remove replace reverse rfind rjust rstrip "
    "setdefault split splitlines startswith strip update upper values zfill __init__".split())
BARRED = set(
    "register mro elements open input law version_info with_traceback add_note compile dir eval "
    "exec exit gc getattr globals hasattr help id locals os quit setattr super type vars sys "
    "typing enum dataclass namedtuple overload contextmanager hash next iter map filter print "
    "chr bytes frozenset float complex pow round format object".split())
NODES = (
    ast.AsyncFunctionDef, ast.Await, ast.AsyncFor, ast.AsyncWith, ast.Global, ast.Div,
    ast.GeneratorExp, ast.Yield, ast.YieldFrom, ast.ExceptHandler, ast.With, ast.Match, ast.AnnAssign,
    ast.MatMult, ast.NamedExpr, ast.Set, ast.Import, ast.Nonlocal,
)


def definitions(tree):
    return {node.name: node for node in tree.body
            if isinstance(node, (ast.FunctionDef, ast.ClassDef))}


def constants(tree):
    return [node.targets[0].id for node in tree.body if isinstance(node, ast.Assign)]


def imports(tree):
    return [node for node in tree.body if isinstance(node, ast.ImportFrom)]


def parents(tree):
    return {child: node for node in ast.walk(tree) for child in ast.iter_child_nodes(node)}


def bound_names(function):
    """The parameters and local variables of a function, those nested in it, too."""
    args = [node.arg for node in ast.walk(function) if isinstance(node, ast.arg)]
    names = [node.id for node in ast.walk(function)
             if isinstance(node, ast.Name) and isinstance(node.ctx, ast.Store)]
    return set(args + names)


def starred(index):
    """Whether a star, one or two, stands anywhere in an index."""
    return any(isinstance(node, ast.Starred) or isinstance(node, ast.Dict) and None in node.keys
               for node in ast.walk(index))


class InterfaceTest(unittest.TestCase):
    def test_functions_are_defined_where_they_are_listed(self):
        for stem, heads in INTERFACE.items():
            found = definitions(TREES[stem])
            for head in heads:
                name, arguments = head[:-1].split("(")
                self.assertIsInstance(found[name], ast.FunctionDef, head)
                self.assertEqual(ast.unparse(found[name].args), arguments, head)

    def test_classes_have_their_methods_themselves(self):
        for (stem, name), heads in CLASSES.items():
            node = definitions(TREES[stem])[name]
            self.assertEqual([ast.unparse(base) for base in node.bases], [])
            methods = [part for part in node.body if isinstance(part, ast.FunctionDef)]
            self.assertEqual([f"{part.name}({ast.unparse(part.args)})" for part in methods], heads)
            for other in TREES:
                self.assertEqual(name in definitions(TREES[other]), other == stem, name)

    def test_listed_names_are_bound_in_no_other_file(self):
        for stem, heads in INTERFACE.items():
            for name in [head.split("(")[0] for head in heads]:
                for other in TREES:
                    self.assertEqual(name in definitions(TREES[other]), other == stem, name)


class FilesTest(unittest.TestCase):
    def test_the_folder_contains_plain_files_alone(self):
        for path in PACKAGE.iterdir():
            if path.name != "__pycache__":
                self.assertEqual(path.suffix, ".py")
                self.assertRegex(path.stem, "^[a-z_]+$")
        self.assertIn("__init__", TREES)

    def test_characters_and_sizes(self):
        for path in FILES:
            text = path.read_text()
            rows = text.split("\n")
            self.assertTrue(all(sign == "\n" or " " <= sign <= "~" for sign in text), path)
            self.assertLessEqual(len(rows), 399)
            self.assertLessEqual(max(len(row) for row in rows), 120)
            for node in ast.walk(TREES[path.stem]):
                if isinstance(node, ast.FunctionDef):
                    self.assertLessEqual(node.end_lineno - node.lineno + 1, 40, node.name)

    def test_module_level(self):
        for stem, tree in TREES.items():
            self.assertIsNotNone(ast.get_docstring(tree), stem)
            for node in tree.body[1:]:
                self.assertIsInstance(
                    node, (ast.ImportFrom, ast.FunctionDef, ast.ClassDef, ast.Assign))
                if isinstance(node, ast.Assign) and ast.unparse(node.targets[0]) != "ANSWERS":
                    ast.literal_eval(node.value)
            bound = [*definitions(tree), *constants(tree),
                     *[alias.name for node in imports(tree) for alias in node.names]]
            self.assertEqual(sorted(bound), sorted(set(bound)), stem)

    def test_a_table_of_functions_stands_behind_them(self):
        body = TREES["desk"].body
        table = [node for node in body if isinstance(node, ast.Assign)][-1]
        above = [node.name for node in body[:body.index(table)] if isinstance(node, ast.FunctionDef)]
        for key, value in zip(table.value.keys, table.value.values):
            self.assertIn(key.value, ("show", "count", "levels", "calling", "term", "tickets", "asks", "sorts"))
            self.assertIn(value.id, above)
        uses = [node for node in ast.walk(TREES["desk"]) if isinstance(node, ast.Assign)
                and ast.unparse(node) == "action = ANSWERS[word]"]
        self.assertEqual(len(uses), 1)

    def test_imports(self):
        for stem, tree in TREES.items():
            for node in imports(tree):
                self.assertEqual(node.level, 0)
                names = [alias.name for alias in node.names]
                self.assertTrue(all(alias.asname is None for alias in node.names))
                if node.module in LIBRARY:
                    self.assertLessEqual(set(names), LIBRARY[node.module])
                else:
                    package, file = node.module.split(".")
                    self.assertEqual(package, "evenorders")
                    known = [*definitions(TREES[file]), *constants(TREES[file])]
                    self.assertLessEqual(set(names), set(known), stem)
                for name in names:
                    used = [part for part in ast.walk(tree)
                            if isinstance(part, ast.Name) and part.id == name]
                    self.assertTrue(used, f"{stem} does not use {name}")

    def test_no_imports_in_a_ring(self):
        needs = {stem: {node.module.split(".")[1] for node in imports(tree)
                        if "." in node.module} for stem, tree in TREES.items()}
        while needs:
            free = [stem for stem in needs if not needs[stem] & set(needs)]
            self.assertTrue(free, needs)
            needs = {stem: needs[stem] for stem in needs if stem not in free}


class RulesTest(unittest.TestCase):
    def each(self, *kinds):
        for stem, tree in TREES.items():
            for node in ast.walk(tree):
                if isinstance(node, kinds):
                    yield f"{stem}: {ast.unparse(node)}", node

    def test_parts_of_the_language_that_are_not_used(self):
        for said, _ in self.each(*NODES):
            self.fail(said)
        for said, node in self.each(ast.Constant):
            self.assertIn(type(node.value), (int, str, bool, type(None)), said)
        for said, node in self.each(ast.FunctionDef, ast.ClassDef):
            self.assertEqual(node.decorator_list, [], said)

    def test_no_star_in_an_index(self):
        for said, node in self.each(ast.Subscript):
            self.assertFalse(starred(node.slice), said)

    def test_what_a_star_in_an_index_is(self):
        for text in ["found[(*row, name)]", "found[*row]", "found[[*row][0]]", "found[f(*row)]",
                     "found[{**row}[0]]", "found[a, (b, *c)] = 1", "found[0][(*row,)] += 1",
                     "del found[1:len([*row])]"]:
            nodes = [node for node in ast.walk(ast.parse(text)) if isinstance(node, ast.Subscript)]
            self.assertTrue(any(starred(node.slice) for node in nodes), text)
        for text in ["found[longer]", "(*row[:at], name)", "[*row][0]", "f(*found[0])[1]"]:
            for node in ast.walk(ast.parse(text)):
                if isinstance(node, ast.Subscript):
                    self.assertFalse(starred(node.slice), text)

    def test_exponents_are_written_out(self):
        for said, node in self.each(ast.BinOp, ast.AugAssign):
            if isinstance(node.op, ast.Pow):
                self.assertIsInstance(node, ast.BinOp, said)
                self.assertIn(ast.literal_eval(node.right), range(65), said)

    def test_names(self):
        for said, node in self.each(ast.Name):
            self.assertNotIn(node.id, BARRED, said)
        for said, node in self.each(ast.Attribute):
            self.assertNotIn(node.attr, BARRED, said)
            self.assertRegex(node.attr, "^(__init__|[a-z][a-z_]*)$", said)
        for said, node in self.each(ast.arg):
            self.assertNotIn(node.arg, BARRED, said)

    def test_no_name_means_two_things(self):
        for stem, tree in TREES.items():
            imported = {alias.name for node in imports(tree) for alias in node.names}
            taken = imported | set(dir(builtins)) | set(definitions(tree)) | set(constants(tree))
            taken -= {name for file, name in LISTED_TWICE if file == stem}
            for function in ast.walk(tree):
                if isinstance(function, ast.FunctionDef):
                    self.assertFalse(bound_names(function) & taken, function.name)

    def test_every_name_is_known(self):
        for stem, tree in TREES.items():
            known = {alias.name for node in imports(tree) for alias in node.names}
            known |= BUILTINS | set(definitions(tree)) | set(constants(tree))
            for function in tree.body:
                bound = bound_names(function)
                for node in ast.walk(function):
                    if isinstance(node, ast.Name):
                        self.assertIn(node.id, known | bound, f"{stem}: {node.id}")

    def test_methods(self):
        own = {head.split("(")[0] for heads in CLASSES.values() for head in heads}
        for said, node in self.each(ast.Call):
            if isinstance(node.func, ast.Attribute):
                if ast.unparse(node.func.value) == "self":
                    self.assertIn(node.func.attr, own, said)
                else:
                    self.assertIn(node.func.attr, METHODS, said)
            for keyword in node.keywords:
                self.assertIn((node.func.id, keyword.arg), [
                    ("sorted", "key"), ("sorted", "reverse"), ("min", "key"), ("min", "default")])

    def test_library_names_are_called(self):
        for tree in TREES.values():
            above = parents(tree)
            for node in ast.walk(tree):
                if isinstance(node, ast.Name) and node.id in LIBRARY_NAMES:
                    self.assertIsInstance(above[node], ast.Call)
                    self.assertIs(above[node].func, node)

    def test_is_stands_beside_none_alone(self):
        for said, node in self.each(ast.Compare):
            if any(isinstance(sign, (ast.Is, ast.IsNot)) for sign in node.ops):
                self.assertIsNone(node.comparators[0].value, said)

    def test_sets_are_measured_or_sorted_at_once(self):
        for tree in TREES.values():
            above = parents(tree)
            for node in ast.walk(tree):
                a_set = isinstance(node, ast.SetComp) or (
                    isinstance(node, ast.Call) and ast.unparse(node.func) == "set")
                if a_set:
                    self.assertIn(ast.unparse(above[node].func), ("len", "sorted"))

    def test_views_are_iterated_at_once(self):
        lazy = ("zip", "enumerate", "reversed", "combinations", "permutations", "product")
        for tree in TREES.values():
            above = parents(tree)
            for node in ast.walk(tree):
                if isinstance(node, ast.Call) and ast.unparse(node.func) in lazy:
                    self.assertIsInstance(above[node], (ast.For, ast.comprehension))

    def test_ranges_are_not_passed_on(self):
        takers = ("list", "tuple", "sorted", "len", "reversed", "combinations", "permutations")
        for tree in TREES.values():
            above = parents(tree)
            for node in ast.walk(tree):
                if isinstance(node, ast.Call) and ast.unparse(node.func) == "range":
                    if isinstance(above[node], ast.Call):
                        self.assertIn(ast.unparse(above[node].func), takers)
                    else:
                        self.assertIsInstance(above[node], (ast.For, ast.comprehension, ast.Assign))

    def test_strings(self):
        for said, node in self.each(ast.Constant):
            if isinstance(node.value, str):
                self.assertNotIn("%", node.value, said)
                self.assertNotIn("__", node.value, said)
                self.assertNotIn("\\", node.value, said)

    def test_what_is_put_back_at_last(self):
        for said, node in self.each(ast.Try):
            self.assertEqual(node.orelse + node.handlers, [], said)
            for row in node.finalbody:
                self.assertIsInstance(row, ast.Assign, said)
                self.assertIsInstance(row.value, (ast.Name, ast.Attribute), said)
                self.assertIsInstance(row.targets[0], (ast.Name, ast.Attribute), said)

    def test_texts_with_braces(self):
        for said, node in self.each(ast.FormattedValue):
            self.assertIsInstance(node.value, (ast.Name, ast.Attribute), said)
            self.assertEqual((node.conversion, node.format_spec), (-1, None), said)

    def test_errors_are_made_where_they_are_raised(self):
        errors = definitions(TREES["errors"])
        for said, node in self.each(ast.Raise):
            self.assertIsInstance(node.exc, ast.Call, said)
            self.assertIn(node.exc.func.id, errors, said)
            self.assertIsNone(node.cause, said)


if __name__ == "__main__":
    unittest.main()
