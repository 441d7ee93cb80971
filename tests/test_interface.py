"""Promise 12: the interface as a whole, and which files use which."""

import ast
import pathlib
import unittest

import termyard
from support import A, ROWS, SIGNS
from termyard import errors
from termyard.errors import TurnError

FOLDER = pathlib.Path(__file__).resolve().parent.parent / "termyard"

# By stages: each file with its defs and classes, written with their arguments; methods behind a dot of their class.
STAGES = [
    {"errors": [], "signs": ["Signs(rows)", "Signs.rows()", "Signs.kind(name)", "Signs.many(name)", "Signs.__len__()", "Signs.__eq__(other)"],
     "terms": ["is_draft(signs, thing)", "is_term(signs, thing)", "laid(signs, draft)", "points(signs, term)", "deep(signs, term)", "gaps(signs, term)",
               "part_rows(signs, term)"],
     "termtexts": ["term_text(signs, term)", "read_term(signs, text)"]},
    {"fillings": ["filled(signs, term, filling)", "both(signs, one, other)"], "spots": ["seen(signs, term)", "exchanged(signs, term, one, other)"],
     "matching": ["matches(signs, pattern, term)", "is_match(signs, pattern, term, filling)"]},
    {"turns": ["Turns(signs, rows)", "Turns.signs()", "Turns.rows()", "Turns.turn(title)", "Turns.__len__()", "Turns.__eq__(other)"],
     "steps": ["steps(turns, term)", "steps_at(turns, term, *, title=None)", "is_step(turns, term, thing)", "is_still(turns, term)"],
     "traces": ["Trace(turns, first, rows=())", "Trace.turns()", "Trace.first()", "Trace.last()", "Trace.rows()", "Trace.joined(other)", "Trace.cut()",
                "Trace.__len__()", "Trace.__eq__(other)", "Trace.__str__()"]},
    {"codes": ["is_code(signs, thing)"], "compiling": ["code_of(signs, lefts)"],
     "machine": ["Machine(signs, code, term)", "Machine.step(*, units=1)", "Machine.told()", "Machine.how()", "Machine.place()", "Machine.gap_rows()",
                 "Machine.choices()", "Machine.twin()", "told_by(signs, code, term)"]},
    {"plans": ["Plans(turns, table)", "Plans.turns()", "Plans.names()", "Plans.plan(name)"],
     "going": ["run(plans, plan, term, *, most=MOST, by_code=False)", "rest(turns, term, *, most=MOST)"], "plantexts": ["plan_text(plan)", "read_plan(text)"]},
    {"scales": ["Scale(signs, layers)", "Scale.layers()", "Scale.signs()", "Scale.__eq__(other)", "sized(scale, term)"], "above": ["above(scale, one, other)"]},
    {"naming": ["called(signs, some)", "are_called_alike(signs, ones, others)"], "pairing": ["is_fit(signs, term)", "pairings(signs, one, other)"],
     "crossings": ["crossings(turns)"]},
    {"likes": ["Likes(signs, rows)", "Likes.signs()", "Likes.rows()", "Likes.like(title)", "Likes.__len__()", "Likes.__eq__(other)"],
     "lemmas": ["is_chain(likes, lemmas, one, other, rows)", "lemma_flaw(likes, lemmas)"],
     "closing": ["closed(likes, scale)", "Closing.likes()", "Closing.scale()", "Closing.lemmas()", "Closing.rules()", "Closing.levels()", "Closing.word()"]},
    {"alike": ["alike(closing, one, other)", "spread(likes, one, told)"],
     "checkers": ["shows_yes(likes, one, other, told)", "shows_no(likes, scale, one, other, told)"]},
    {"books": [],
     "shelf": ["Shelf()", "Shelf.do(deed)", "Shelf.back()", "Shelf.again()", "Shelf.all_done(deeds)", "Shelf.log()", "Shelf.busy()", "Shelf.books()",
               "Shelf.uses(book)", "Shelf.own_signs(book)", "Shelf.own_likes(book)", "Shelf.likes(book)", "Shelf.scale(book)", "Shelf.closing(book)",
               "Shelf.made()", "Shelf.alike(book, one, other)", "Shelf.keeps(book)", "Shelf.twin()", "led(deeds)"]},
    {"booktexts": ["shelf_text(shelf)", "read_shelf(text)"], "desk": ["Desk()", "Desk.say(row)"]},
]
ERRORS = {"NoSigns": "", "NoSign": "name", "NoTerm": "", "NoText": "row", "NoFilling": "", "NoPattern": "", "TooMany": "", "NoTurn": "at", "NoName": "name",
          "NoStep": "at", "NoTrace": "", "NoPlan": "", "TooLong": "", "NoNumber": "", "NoCode": "", "NoScale": "", "NoFit": "name", "NoLike": "at",
          "NoDeed": "at why", "InUse": "name", "Broken": "book kept one other", "TooGreat": ""}


def tree_of(name):
    return ast.parse((FOLDER / f"{name}.py").read_text(encoding="utf-8"))


def told(node, owner=""):
    """A def as the interface writes it, without the object's own name."""
    given = node.args
    names = [arg.arg for arg in given.args]
    names = names[1:] if owner else names
    defaults = [ast.unparse(row) for row in given.defaults]
    for at, row in enumerate(defaults):
        names[len(names) - len(defaults) + at] += f"={row}"
    if given.kwonlyargs:
        names.append("*")
    for arg, row in zip(given.kwonlyargs, given.kw_defaults):
        names.append(f"{arg.arg}={ast.unparse(row)}")
    return f"({', '.join(names)})"


def defined(name):
    """All that a file defines, as the interface writes it."""
    rows = []
    for node in tree_of(name).body:
        if isinstance(node, ast.FunctionDef):
            rows.append(node.name + told(node))
        if isinstance(node, ast.ClassDef):
            for part in node.body:
                if isinstance(part, ast.FunctionDef):
                    rows.append((node.name if part.name == "__init__" else f"{node.name}.{part.name}") + told(part, node.name))
    return rows


class InterfaceTest(unittest.TestCase):
    def test_each_name_is_defined_in_its_file(self):
        for stage in STAGES:
            for name, rows in stage.items():
                there = defined(name)
                for row in rows:
                    self.assertIn(row, there, name)

    def test_the_package_binds_nothing(self):
        names = [name for name in vars(termyard) if not name.startswith("__")]
        files = [path.stem for path in FOLDER.glob("*.py")]
        self.assertEqual([name for name in names if name not in files], [])

    def test_a_stage_uses_what_is_ahead_alone(self):
        stages = {name: at for at, stage in enumerate(STAGES) for name in stage}
        self.assertEqual(sorted(stages), sorted(path.stem for path in FOLDER.glob("*.py") if path.stem != "__init__"))
        for name in stages:
            for node in ast.walk(tree_of(name)):
                if isinstance(node, ast.ImportFrom) and node.module.startswith("termyard."):
                    self.assertLessEqual(stages[node.module.split(".")[1]], stages[name], name)

    def test_the_yes_checker_knows_terms_spots_and_likes_alone(self):
        used = [node.module for node in ast.walk(tree_of("checkers")) if isinstance(node, ast.ImportFrom)]
        for name in ("closing", "alike"):
            self.assertNotIn(f"termyard.{name}", used)

    def test_errors(self):
        for name, fields in ERRORS.items():
            made = getattr(errors, name)
            self.assertEqual(made.__bases__, (TurnError,))
            given = fields.split()
            error = made(*(["x"] if not given else list(range(len(given)))))
            for at, field in enumerate(given):
                self.assertEqual(getattr(error, field), at)
        self.assertEqual(TurnError.__bases__, (ValueError,))
        classes = [row for row in vars(errors).values() if isinstance(row, type)]
        self.assertEqual({row.__name__ for row in classes}, set(ERRORS) | {"TurnError"})

    def test_signs_of_the_tests(self):
        self.assertEqual(SIGNS.rows(), ROWS)
        self.assertEqual(A, ("a",))


if __name__ == "__main__":
    unittest.main()
