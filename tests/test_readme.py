import pathlib
import re
import unittest

README = pathlib.Path(__file__).resolve().parent.parent / "README.md"


class ReadmeTest(unittest.TestCase):
    def test_the_example(self):
        code = re.search(r"```python\n(.*?)```", README.read_text(), re.DOTALL).group(1)
        bound = {}
        told = 0
        for line in code.splitlines():
            if line.startswith("from ") or re.match(r"\w+ = ", line):
                exec(line, bound)
            elif line:
                asked, _, remark = line.partition("  # ")
                answer = repr(eval(asked, bound)).replace("'", '"')
                self.assertTrue(remark.startswith(answer) or remark.startswith("the same as"), (line, answer))
                told += 1
        self.assertGreater(told, 30)

    def test_every_module_is_named(self):
        text = README.read_text()
        for path in (README.parent / "everywidth").rglob("*.py"):
            if path.name != "__init__.py":
                name = ".".join(path.relative_to(README.parent).with_suffix("").parts)
                self.assertIn(f"| `{name}` |", text)


if __name__ == "__main__":
    unittest.main()
