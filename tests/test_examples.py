import doctest
import pathlib
import unittest

HERE = pathlib.Path(__file__).resolve().parent
DOCUMENT = HERE.parent.parent / "shared" / "DOC.md"


class TestExamples(unittest.TestCase):
    """The examples of DOC.md, stage by stage, as they stand there."""

    def test_they_hold(self):
        for path in sorted((HERE / "examples").glob("*.txt")):
            examples = doctest.DocTestParser().get_doctest(path.read_text(), {}, path.name, path.name, 0)
            found = []
            failed, tried = doctest.DocTestRunner().run(examples, out=found.append)
            self.assertEqual(failed, 0, "".join(found))
            self.assertGreater(tried, 8, path.name)

    @unittest.skipUnless(DOCUMENT.exists(), "DOC.md is not here")
    def test_they_stand_in_the_document(self):
        document = DOCUMENT.read_text()
        for path in sorted((HERE / "examples").glob("*.txt")):
            for example in doctest.DocTestParser().get_examples(path.read_text()):
                self.assertIn(f">>> {example.source}{example.want}", document)


if __name__ == "__main__":
    unittest.main()
