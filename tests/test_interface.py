import importlib
import inspect
import unittest

# What is to be there under its name, with how many arguments it takes.
FUNCTIONS = {
    "letters": {"contrary": 1, "turned": 1},
    "words": {"shortened": 1, "shortest": 1, "ring": 1, "loop": 1, "are_one": 2, "root": 1},
    "yards": {"look_yard": 1, "look_word": 2, "bands": 1, "goes_round": 4, "within": 2},
    "rims": {"rims": 1, "handles": 1},
    "drawings": {"look_drawing": 2, "plain": 2},
    "meetings": {"points": 2, "meetings": 2},
    "drawingtexts": {"show_drawing": 2, "read_drawing": 2},
    "deeds": {"done": 3},
    "roads": {"road": 3},
    "forced": {"forced": 2, "is_forced": 3},
    "least": {"least": 2, "own": 2, "between": 3},
    "taut": {"taut": 2},
    "papers": {"paper_of": 2, "paper_holds": 3},
    "lone": {"is_lone": 2, "lone_loops": 2},
    "apart": {"lie_apart": 2, "most": 1, "full_set": 1},
    "pieces": {"pieces": 2},
    "filled": {"filled": 2},
    "winding": {"wound": 4, "wound_all": 3, "undone": 1},
    "programs": {"look_program": 1, "worked": 1},
    "programtexts": {"show_program": 1, "read_program": 1},
    "sides": {"sides": 4},
    "nets": {"net": 2, "table": 1, "crossed": 3, "rank": 1},
}


class TestInterface(unittest.TestCase):
    def test_functions(self):
        for module, functions in FUNCTIONS.items():
            found = importlib.import_module("mustmeet." + module)
            for name, count in functions.items():
                function = getattr(found, name)
                self.assertTrue(inspect.isfunction(function), name)
                self.assertEqual(len(inspect.signature(function).parameters), count, name)

    def test_desk(self):
        desk = importlib.import_module("mustmeet.desk").Desk
        self.assertTrue(inspect.isclass(desk))
        self.assertEqual(len(inspect.signature(desk).parameters), 0)
        self.assertEqual(len(inspect.signature(desk().say).parameters), 1)


if __name__ == "__main__":
    unittest.main()
