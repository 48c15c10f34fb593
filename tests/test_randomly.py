"""Points 3 and 5 at projects by chance, told a second way."""

import unittest

from randomly import MANY, expression_text, sound
from sourceback.places import definition, hidden_places, levels, places, rows_places
from sourceback.values import labelled, output, shown, value_of



def record(tree, labels):
    """What output and labelled return of a tree."""
    pairs = []
    for name, hidden, value in tree:
        if hidden:
            continue
        if isinstance(value, list):
            if value and isinstance(value[0], tuple) and len(value[0]) == 2:
                value = tuple((serial, record(row, labels)) if labels else record(row, labels) for serial, row in value)
            else:
                value = record(value, labels)
        pairs.append((name, value))
    return tuple(pairs)


class Randomly(unittest.TestCase):
    @classmethod
    def setUpClass(cls):
        cls.worlds, cls.circles = sound().worlds, sound().circles

    def test_there_are_enough(self):
        self.assertGreater(len(self.worlds), MANY // 3)
        self.assertGreater(self.circles, MANY // 20)
        rows = [result for _, _, result in self.worlds if any(hidden for hidden, _ in result.rows.values())]
        self.assertGreater(len(rows), 3)
        for _, _, result in self.worlds:
            if any(len([part for part in path if isinstance(part, int)]) > 1 for _, path in result.layers):
                return
        self.fail("no rows in rows")

    def test_places(self):
        for _, project, result in self.worlds:
            self.assertEqual(places(project), tuple(sorted(p for p in result.layers if not result.hidden[p])))
            self.assertEqual(hidden_places(project), tuple(sorted(p for p in result.layers if result.hidden[p])))
            self.assertEqual(rows_places(project), tuple(sorted(p for p in result.rows if not result.rows[p][0])))

    def test_levels(self):
        for _, project, result in self.worlds:
            for place in result.layers:
                self.assertEqual(levels(project, place), result.levels(place), (project.files, place))

    def test_definitions(self):
        for _, project, result in self.worlds:
            for place, layers in result.layers.items():
                for layer in layers:
                    value = layer.get(place[1][-1])
                    expected = None
                    if value is not None:
                        expected = ("expression", expression_text(value))
                        if value["form"] == "literal":
                            expected = ("literal", value["worth"])
                    self.assertEqual(definition(project, layer.level(place[1][-1])), expected, project.files)

    def test_items(self):
        for world, project, _ in self.worlds:
            for (file, name), found in world.lists.items():
                self.assertEqual(project.serials(file, name), tuple(range(len(found["items"]))))
                for serial, item in enumerate(found["items"]):
                    for column in item:
                        spot = (file, name, (serial, column))
                        self.assertEqual(definition(project, spot), ("literal", item[column]))

    def test_values(self):
        for _, project, result in self.worlds:
            for file, path in result.layers:
                self.assertEqual(value_of(project, (file, path)), result.value(file, path), project.files)
            for rows_place, (hidden, serials) in result.rows.items():
                if not hidden:
                    self.assertEqual(shown(project, rows_place), serials)

    def test_outputs(self):
        for world, project, result in self.worlds:
            for file in world.documents:
                self.assertEqual(output(project, file), record(result.trees[file], False))
                self.assertEqual(labelled(project, file), record(result.trees[file], True))


if __name__ == "__main__":
    unittest.main()
