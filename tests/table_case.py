"""What tests of tables share: the form of a table."""

from graph_case import GraphCase


class TableCase(GraphCase):
    def formed_table(self, table, events):
        """Of the form of point 31."""
        self.assertIs(type(table), tuple)
        self.assertEqual([type(part) for part in table], [list, list, list])
        self.assertEqual(table[0], events)
        count = len(table[2])
        self.assertTrue(1 <= count <= 2000)
        for number, room in enumerate(table[2]):
            self.assertIs(type(room), tuple)
            over, rows = room
            self.assertIs(type(over), bool)
            self.assertIs(type(rows), list)
            self.assertEqual(len(rows), len(events))
            for row in rows:
                self.assertIs(type(row), tuple)
                said, way = row
                self.assertIs(type(said), list)
                self.whole(way, 0, count - 1)
                if over:
                    self.assertEqual(row, ([], number))
