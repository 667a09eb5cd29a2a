"""Point 2 and "The interface": where names are defined, and what the package folder holds."""

import ast
import pathlib
import unittest

PACKAGE = pathlib.Path(__file__).resolve().parent.parent / 'keptroutes'
FUNCTIONS = {
    'maps.py': ('is_prefix',),
    'texts.py': ('format_map', 'parse_map'),
    'stretches.py': ('stretches', 'first_difference', 'same_meaning'),
    'tasks.py': ('cost', 'is_solution'),
    'obstacles.py': ('is_obstacle', 'obstacles', 'first_obstacle'),
    'cheapest.py': ('least_cost', 'cheapest'),
    'certificates.py': ('certificate', 'check_certificate'),
    'fewest.py': ('fewest_rows', 'fewest_equal'),
    'sequences.py': ('changes', 'moments', 'is_safe'),
    'merging.py': ('merge_wish', 'conflicts', 'merge_task'),
    'plans.py': ('moved_runs', 'switches'),
}
CLASSES = {
    'maps.py': {
        'PrefixMap': ('__init__', '__len__', '__eq__', 'width', 'rows', 'walk', 'longest', 'with_row', 'without'),
    },
    'tables.py': {'Table': ('__init__', 'of', 'is_target', 'lookup', 'targets')},
    'wishes.py': {'Wish': ('__init__', 'exact', 'allowed', 'first_failure', 'is_fulfilled')},
    'tasks.py': {
        'Prices': ('__init__', 'adding', 'changing', 'removing', 'single', 'with_row'),
        'Task': ('__init__', 'table', 'wish', 'prices', 'nodes', 'leaves', 'choices'),
    },
    'history.py': {
        'History': ('__init__', 'revise', 'put', 'cut', 'version', 'undo', '__len__', 'latest', 'spent', 'copy'),
    },
    'board.py': {
        'Board': ('__init__', 'create', 'put', 'take', 'price', 'lock', 'free', 'revise', 'drop', 'mark', 'back',
                  'batch', 'names', 'table_of', 'prices_of', 'spent_on', 'log', 'copy'),
    },
    'shell.py': {'Shell': ('__init__', 'run')},
    'plans.py': {
        'Plan': ('__init__', 'steps', 'done', 'current', 'is_finished', 'advance', 'back', 'finish', 'abandon',
                 'rebased', 'copy'),
    },
}


def definitions(nodes, kind):
    """Return the definitions of this kind among the nodes, by name."""
    return {node.name: node for node in nodes if isinstance(node, kind)}


class InterfaceTest(unittest.TestCase):
    def body(self, name):
        return ast.parse((PACKAGE / name).read_text(encoding='utf-8')).body

    def test_functions_are_defined_in_their_file(self):
        for name, functions in FUNCTIONS.items():
            for function in functions:
                self.assertIn(function, definitions(self.body(name), ast.FunctionDef))

    def test_methods_are_defined_in_their_class(self):
        for name, classes in CLASSES.items():
            found = definitions(self.body(name), ast.ClassDef)
            for owner, methods in classes.items():
                for method in methods:
                    with self.subTest(owner=owner, method=method):
                        self.assertIn(method, definitions(found[owner].body, ast.FunctionDef))

    def test_the_folder_holds_only_python_files(self):
        for path in PACKAGE.iterdir():
            if path.name != '__pycache__':
                self.assertTrue(path.is_file() and path.suffix == '.py', path.name)

    def test_sizes(self):
        for path in PACKAGE.glob('*.py'):
            lines = path.read_text(encoding='ascii').split('\n')
            self.assertLess(len(lines), 400, path.name)
            self.assertLessEqual(max(len(line) for line in lines), 120, path.name)
            for node in ast.walk(ast.parse('\n'.join(lines))):
                if isinstance(node, ast.FunctionDef):
                    self.assertLessEqual(node.end_lineno - node.lineno + 1, 40, node.name)
