"""Nets, behind point [24]: as many pass as the narrowest cut lets, along paths that share no more than there is room."""

import itertools
import random
import unittest

from wipeways.nets import Net


def net_of(rooms):
    net = Net("start", "end")
    for (node, other), many in rooms.items():
        net.link(node, other, many)
    return net


def narrowest(rooms):
    """How many pass through the narrowest cut, by trying all."""
    inner = sorted({node for pair in rooms for node in pair} - {"start", "end"})
    found = []
    for many in range(len(inner) + 1):
        for some in itertools.combinations(inner, many):
            near = {"start", *some}
            found.append(sum(room for (node, other), room in rooms.items() if node in near and other not in near))
    return min(found)


class TestNet(unittest.TestCase):

    def right(self, rooms):
        """Sees that as many pass as can; returns how many."""
        net = net_of(rooms)
        reached, many = net.fill()
        self.assertEqual(many, narrowest(rooms))
        cut = [room for (node, other), room in rooms.items() if node in reached and other not in reached]
        self.assertEqual(sum(cut), many)
        self.assertNotIn("end", reached)
        used = {}
        for _ in range(many):
            path = ["start", *net.take_path(), "end"]
            for pair in zip(path, path[1:]):
                used[pair] = used.get(pair, 0) + 1
        for pair, times in used.items():
            self.assertLessEqual(times, rooms.get(pair, 0))
        return many

    def test_small_nets(self):
        self.assertEqual(self.right({}), 0)
        self.assertEqual(self.right({("start", "end"): 3}), 3)
        self.assertEqual(self.right({("start", "a"): 2, ("a", "end"): 1}), 1)
        self.assertEqual(self.right({("start", "a"): 2}), 0)
        self.assertEqual(self.right({("a", "end"): 2}), 0)

    def test_what_passes_is_taken_back(self):
        # The first path goes by the shortest way, through the middle, which two paths cannot do.
        rooms = {("start", "a"): 1, ("a", "b"): 1, ("b", "end"): 1}
        rooms.update({("start", "c"): 1, ("c", "d"): 1, ("d", "b"): 1})
        rooms.update({("a", "e"): 1, ("e", "h"): 1, ("h", "end"): 1})
        self.assertEqual(self.right(rooms), 2)
        self.assertEqual(self.right({pair: 2 * room for pair, room in rooms.items()}), 4)
        self.assertEqual(self.right({pair: 9 if pair == ("a", "b") else room for pair, room in rooms.items()}), 2)

    def test_by_chance(self):
        chance = random.Random(121)
        seen = set()
        for _ in range(600):
            nodes = ["start", "end", *"abcdegh"[:chance.randrange(2, 8)]]
            rooms = {}
            for node, other in itertools.combinations(nodes, 2):
                if chance.randrange(5) < 3:
                    node, other = (node, other) if chance.randrange(2) else (other, node)
                    if other != "start" and node != "end":
                        rooms[(node, other)] = chance.choice((1, 1, 1, 2, 9))
            seen.add(min(4, self.right(rooms)))
        self.assertEqual(seen, {0, 1, 2, 3, 4})


if __name__ == "__main__":
    unittest.main()
