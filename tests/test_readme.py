"""The examples of README.md."""

import doctest
import unittest

from tests.samples import PACKAGE


class ReadmeTest(unittest.TestCase):

    def test_examples(self):
        text = (PACKAGE.parent / "README.md").read_text(encoding="ascii")
        # The line that ends an example in the text would be taken for a part of its answer.
        examples = doctest.DocTestParser().get_doctest(text.replace("```", ""), {}, "README.md", None, 0)
        self.assertGreater(len(examples.examples), 20)
        self.assertEqual(doctest.DocTestRunner(verbose=False).run(examples).failed, 0)


if __name__ == "__main__":
    unittest.main()
