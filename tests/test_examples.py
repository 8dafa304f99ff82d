import doctest
import pathlib
import re
import unittest

HERE = pathlib.Path(__file__).resolve().parent
DOCUMENT = HERE.parent.parent / "shared" / "DOC.md"


class TestExamples(unittest.TestCase):
    """The examples of DOC.md, stage by stage, as they stand there."""

    def test_they_hold(self):
        for path in sorted((HERE / "examples").glob("*.txt")):
            examples = doctest.DocTestParser().get_doctest(path.read_text(), {}, path.name, path.name, 0)
            found = []
            failed, tried = doctest.DocTestRunner().run(examples, out=found.append)
            self.assertEqual(failed, 0, "".join(found))
            self.assertGreater(tried, 5, path.name)

    @unittest.skipUnless(DOCUMENT.exists(), "DOC.md is not here")
    def test_they_are_those_of_the_document(self):
        parts = re.split("\n## Stage ([0-9]+)\n", DOCUMENT.read_text())
        for stage, text in zip(parts[1::2], parts[2::2]):
            examples = "".join(re.findall("```\n(.*?)```", text, re.DOTALL))
            self.assertTrue(examples == (HERE / "examples" / f"stage{stage}.txt").read_text(), stage)
        self.assertEqual(len(parts[1::2]), len(list((HERE / "examples").glob("*.txt"))))


if __name__ == "__main__":
    unittest.main()
