"""The examples of the document, just as they stand there."""

import doctest
import unittest

EXAMPLES = """
>>> from plaindoors.foldings import Folding
>>> plain = Folding((("lower",), ("drop", " -"), ("lead", "0")))
>>> plain("00 Ab-7"), plain("ab7"), "ab7" in plain, "Ab" in plain
('ab7', 'ab7', True, False)

>>> from plaindoors.doors import Doors, answers, first_break, wished
>>> small = Folding((("lower",),))
>>> doors = Doors(small, Folding(), small, small)
>>> answers(doors, [("put", "Ann"), ("find", "Ann")]), wished(doors, [("put", "Ann"), ("find", "Ann")])
([True, False], [True, True])
>>> len(first_break(doors))
2
"""


class DocumentTest(unittest.TestCase):
    def test_examples(self):
        examples = doctest.DocTestParser().get_doctest(EXAMPLES, {}, "document", "DOC.md", 0)
        told = []
        result = doctest.DocTestRunner(verbose=False).run(examples, out=told.append)
        self.assertEqual(result.failed, 0, "".join(told))
        self.assertEqual(result.attempted, 8)


if __name__ == "__main__":
    unittest.main()
