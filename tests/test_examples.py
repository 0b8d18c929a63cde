"""All examples of the document, as they stand there: those in examples.txt, and those of the document itself where it is."""

import doctest
import pathlib
import re
import unittest

HERE = pathlib.Path(__file__).resolve().parent
DOCUMENT = HERE.parent.parent / 'shared' / 'DOC.md'


def raised(error):
    """An error as the examples write it."""
    fields = ', '.join(f'{name}={field!r}' for name, field in vars(error).items())
    return f'raises {type(error).__name__}({fields})'


def result_of(source, names):
    """What an example shows, the empty string if it shows nothing."""
    try:
        value = eval(compile(source, 'example', 'eval'), names)
    except SyntaxError:
        exec(compile(source, 'example', 'exec'), names)
        return ''
    except ValueError as e:
        return raised(e)
    return '' if value is None else repr(value)


class ExamplesTest(unittest.TestCase):
    def check(self, text):
        names = {}
        tried = 0
        for example in doctest.DocTestParser().get_examples(text):
            result = result_of(example.source, names)
            self.assertEqual(result, example.want.strip(), example.source)
            tried += example.want != ''
        return tried

    def test_examples(self):
        self.assertEqual(self.check((HERE / 'examples.txt').read_text()), 40)

    def test_examples_of_the_document(self):
        if DOCUMENT.exists():
            text = '\n'.join(line if line.startswith('    ') else '' for line in DOCUMENT.read_text().split('\n'))
            self.assertGreater(self.check(text), 30)

    def test_each_module_is_shown(self):
        shown = set(re.findall(r'from forkyields\.(\w+) import', (HERE / 'examples.txt').read_text()))
        self.assertTrue({'yards', 'desks', 'exclusions', 'heaps', 'resting', 'outside', 'takers'} <= shown)


if __name__ == '__main__':
    unittest.main()
