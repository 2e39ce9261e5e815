"""The interface at the end of DOC.md: names, arguments, and methods that stand in their class itself."""

import importlib
import inspect
import unittest

FUNCTIONS = {
    "judges": """
        is_judge(value) input_count(judge) output_count(judge) is_input_word(judge,value) is_output_word(judge,value)
        next_state(judge,state,x,y) reached_states(judge)
    """,
    "runs": """
        run(judge,inputs,outputs) count_answers(judge,inputs) answer_at(judge,inputs,number)
        answer_number(judge,inputs,outputs)
    """,
    "relations": """
        is_relation(judge,value) relation_of(judge,inputs) composed(one,other) all_relations(judge)
        least_word(judge,relation) long_relations(judge) block_length(judge) count_words(judge,relation,length)
        first_word(judge,relation,length) loop_of(judge,relation) shows_loop(judge,relation,value)
    """,
    "pairs": """
        safe_pairs(judge,ahead) is_enough(judge,ahead) table_for(judge,ahead) shows_table(judge,ahead,value)
        used_rows(judge,ahead,table)
    """,
    "converters": "converted(judge,ahead,table,inputs)",
    "least": "least_ahead(judge) ahead_bound(judge)",
    "blockgame": """
        is_won(judge,state,relation) rank(judge,state,relation) lost_positions(judge) naming(judge,state,relation)
        choice(judge,state,relation,later) shows_won(judge,value)
    """,
    "certificates": """
        certificate(judge) shows_certificate(judge,value) block_word(block,least) defeat(judge,value,ahead,answer)
    """,
    "combining": """
        side_by_side(one,other) both(one,other) delayed(judge) with_entry(judge,state,x,y,entry)
        renumbered(judge,order) relettered(judge,inputs,outputs) without_unreached(judge)
    """,
    "texts": """
        show_judge(judge) read_judge(text) show_table(table) read_table(judge,ahead,text) show_word(word)
        read_word(text)
    """,
}
CLASSES = {
    "converters": ("Converter", "__init__(self,judge,ahead,table) feed(self,letter) here(self) pending(self) "
                   "written(self) __len__(self) copy(self) __eq__(self,other)"),
    "sessions": ("Session", "__init__(self,judge) change(self,state,x,y,entry) undo(self) changes(self) present(self) "
                 "ahead_now(self) table_now(self) certificate_now(self) copy(self) __eq__(self,other)"),
    "desk": ("Desk", "__init__(self,text) say(self,line)"),
}


def split(text):
    """The name of a function and the list of its parameters."""
    name, bracket, rest = text.partition("(")
    return name, rest.rstrip(")").split(",")


class Interface(unittest.TestCase):
    def assert_parameters(self, function, names):
        parameters = inspect.signature(function).parameters
        self.assertEqual(list(parameters), names)
        for parameter in parameters.values():
            self.assertIs(parameter.kind, parameter.POSITIONAL_OR_KEYWORD)
            self.assertIs(parameter.default, parameter.empty)

    def test_functions(self):
        for module, text in FUNCTIONS.items():
            for name, parameters in map(split, text.split()):
                function = getattr(importlib.import_module("leastahead." + module), name)
                self.assertEqual(function.__module__, "leastahead." + module)
                self.assert_parameters(function, parameters)

    def test_classes(self):
        for module, (name, text) in CLASSES.items():
            one = getattr(importlib.import_module("leastahead." + module), name)
            self.assertEqual(one.__module__, "leastahead." + module)
            for method, parameters in map(split, text.split()):
                self.assertIn(method, vars(one))
                self.assert_parameters(vars(one)[method], parameters)
