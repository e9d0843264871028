"""The general rules, and the interface, of every function: names, wrong arguments, what is changed."""

import contextlib
import copy
import importlib
import inspect
import unittest

from phrasejoins import errors
from phrasejoins.books import Book
from phrasejoins.desk import Desk
from phrasejoins.scripts import play
from phrasejoins.worlds import World
from tests import table, table_desk, table_joins

FUNCTIONS = table.FUNCTIONS + table_joins.FUNCTIONS + table_desk.FUNCTIONS
INTERFACE = {
    **table_joins.INTERFACE, **table_desk.INTERFACE,
    "forms": [
        "is_kind(value)", "signs_of(kind)", "plains_of(kind)", "is_free(kind)", "turned(kind)", "put_for(kind, sent)",
        "all_kinds(plains, number)", "many_kinds(plains, number)",
    ],
    "derivations": [
        "is_derivation(value)", "told_by(derivation)", "is_derivation_of(row, goal, value)", "knots_of(derivation)",
        "cuts_of(derivation)", "turned_derivation(derivation)", "with_put(derivation, sent)", "plain_out(derivation)",
        "cut_in(one, other, place)",
    ],
    "giving": [
        "steps_back(row, goal)", "gives(row, goal)", "derivation_of(row, goal)", "bar_of(row, goal)",
        "is_bar(row, goal, value)", "without_cuts(derivation)", "waits_for(ahead, goal, behind)",
    ],
    "readings": ["head_of(kind)", "waits_of(kind)", "many_readings(row, goal)"],
    "letters": [
        "are_letters(value)", "letters_of(kind)", "letters_of_row(row)", "put_letters(one, other)",
        "turned_back(letters)", "may_give(row, goal)", "are_round(one, other)", "plain_form(letters, plain)",
        "turn_of(turns, kind)", "parting_turns(one, other)", "are_parting_turns(one, other, value)",
    ],
    "links": [
        "knots_ahead(row, goal)", "links_of(derivation)", "between(row, goal, first, last)",
        "is_between(row, goal, first, last, value)",
    ],
    "worlds": [
        "World(table, lots)", "lot_of(world, kind)", "lot_of_row(world, row)", "many_ways(world, row, thing)",
        "holds(world, row, kind)", "escaping(world, row, kind)", "parting_world(row, kind, many)",
        "is_parting_world(row, kind, value)", "rows_giving(kinds, kind, number)", "turned_world(world)",
        "all_tables(many)",
    ],
}

# The methods of each class, with their parameters.
METHODS = {**table_joins.METHODS, **table_desk.METHODS, World: ["table()", "lots()", "things()", "plains()", "__eq__(other)"]}


def rights(parameters):
    """New right arguments."""
    return copy.deepcopy([right for name, right, made, wrong in parameters])


def told_by_desk(desk):
    """All that the methods of a desk tell, also of what can be undone and made again."""
    told = [desk.goal(), desk.row(), desk.gives(), desk.derivation(), desk.letters(), desk.can_give(), desk.record()]
    undone, made_again = desk.copy(), desk.copy()
    with contextlib.suppress(errors.NothingToUndo):
        while True:
            undone.undo()
            told.append(("undo", undone.row(), undone.record()))
    with contextlib.suppress(errors.NothingToRedo):
        while True:
            made_again.redo()
            told.append(("redo", made_again.row(), made_again.record()))
    return told


def shown(value):
    """The text of any result or argument, worlds with all that they tell."""
    if isinstance(value, World):
        return f"World({shown(value.table())}, {shown(value.lots())}, {value.things()}, {value.plains()})"
    if isinstance(value, Book):
        return f"Book({shown(value.words())}, {shown(value.goal())})"
    if isinstance(value, Desk):
        return f"Desk({shown(told_by_desk(value))})"
    if isinstance(value, dict):
        return "{" + ", ".join(f"{shown(key)}: {shown(part)}" for key, part in value.items()) + "}"
    if isinstance(value, (list, tuple)):
        return f"{type(value).__name__}({', '.join(shown(part) for part in value)})"
    return repr(value)


def emptied(result):
    """Empties every list and dictionary in a result."""
    if isinstance(result, (list, tuple)):
        for part in list(result):
            emptied(part)
    if isinstance(result, dict):
        for part in list(result.values()):
            emptied(part)
    if isinstance(result, (list, dict)):
        result.clear()
    if isinstance(result, World):
        emptied([result.table(), result.lots(), result.things(), result.plains()])
    if isinstance(result, Book):
        emptied([result.words()])
    if isinstance(result, Desk):
        emptied([result.row(), result.letters(), result.record()])


class Arguments(unittest.TestCase):
    def assert_raised(self, function, arguments, made, value):
        with self.assertRaises(errors.PhraseError) as caught:
            function(*arguments)
        self.assertIs(type(caught.exception), made, (function, arguments))
        self.assertIs(caught.exception.value, value, (function, arguments))

    def test_interface(self):
        listed = [(name, told) for name, many in INTERFACE.items() for told in many]
        self.assertEqual(len(listed), len(FUNCTIONS))
        for name, told in listed:
            module = importlib.import_module("phrasejoins." + name)
            function = getattr(module, told.partition("(")[0])
            self.assertEqual(function.__module__, "phrasejoins." + name)
            self.assertEqual(function.__name__ + str(inspect.signature(function)), told)
            self.assertIn(function, [entry[0] for entry in FUNCTIONS])

    def test_methods(self):
        for made, many in METHODS.items():
            for told in many:
                name, _, parameters = told.partition("(")
                self.assertIn(name, vars(made))
                self.assertEqual(str(inspect.signature(vars(made)[name])), "(self" + (", " + parameters if
                                 parameters != ")" else ")"))

    def test_by_place_and_by_name(self):
        for function, parameters in FUNCTIONS:
            by_place = function(*rights(parameters))
            names = [name for name, right, made, wrong in parameters]
            by_name = function(**dict(zip(names, rights(parameters))))
            self.assertEqual(shown(by_place), shown(by_name))

    def test_each_wrong_argument(self):
        for function, parameters in FUNCTIONS:
            for place, (name, right, made, many_wrong) in enumerate(parameters):
                for wrong in many_wrong:
                    arguments = rights(parameters)
                    arguments[place] = wrong
                    if made is None:
                        self.assertIs(function(*arguments), False, (function, arguments))
                    else:
                        self.assert_raised(function, arguments, made, wrong)

    def test_the_first_wrong_argument_is_told(self):
        for function, parameters in FUNCTIONS:
            for place, (name, right, made, many_wrong) in enumerate(parameters):
                if made is None:
                    continue
                for later in range(place + 1, len(parameters)):
                    for wrong, other in zip(many_wrong, parameters[later][3]):
                        arguments = rights(parameters)
                        arguments[place] = wrong
                        arguments[later] = other
                        self.assert_raised(function, arguments, made, wrong)

    def test_judges_judge_anything(self):
        everything = [wrong for function, parameters in FUNCTIONS for entry in parameters for wrong in entry[3]]
        for function, parameters in FUNCTIONS:
            if parameters[-1][0] == "value":
                arguments = rights(parameters[:-1])
                self.assertIs(function(*arguments, parameters[-1][1]), True, function)
                for value in everything:
                    self.assertIn(function(*arguments, value), [True, False])

    def test_arguments_are_not_changed(self):
        for function, parameters in FUNCTIONS:
            arguments = rights(parameters)
            kept = shown(arguments)
            function(*arguments)
            # The desk that is passed to play is changed.
            first = 1 if function is play else 0
            self.assertEqual(shown(arguments[first:]), shown(rights(parameters)[first:]))
            self.assertIs(shown(arguments) == kept, function is not play)

    def test_results_are_new_and_equal(self):
        for function, parameters in FUNCTIONS:
            arguments = rights(parameters)
            first = function(*arguments)
            told = shown(first)
            self.assertEqual(shown(function(*rights(parameters))), told)
            emptied(first)
            self.assertEqual(shown(function(*rights(parameters))), told)
            if function is not play:
                self.assertEqual(shown(function(*arguments)), told)

    def test_results_do_not_hold_arguments(self):
        for function, parameters in FUNCTIONS:
            arguments = rights(parameters)
            result = function(*arguments)
            told = shown(result)
            emptied(arguments if function is not play else arguments[1:])
            self.assertEqual(shown(result), told)


if __name__ == "__main__":
    unittest.main()
