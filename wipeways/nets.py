"""Nets: how much can pass from a start to an end, by which paths, and where it is narrowest."""


class Net:
    """Nodes, how many may pass from one to another, and how many do by now."""

    def __init__(self, start, end):
        self.start = start
        self.end = end
        self.room = {start: {}, end: {}}
        self.passing = {}

    def link(self, node, other, many):
        """Makes room for so many from the node to the other one, between which there is none in the other sense."""
        self.room.setdefault(node, {})[other] = many
        # What passes can be taken back.
        self.room.setdefault(other, {})[node] = 0

    def pass_by(self, node, other):
        """How many pass from the node to the other one."""
        return self.passing.get((node, other), 0)

    def rest(self, node, other):
        """How many more could pass from the node to the other one, also by taking back what passes."""
        return self.room[node][other] - self.pass_by(node, other) + self.pass_by(other, node)

    def reached(self):
        """The nodes to which one more could come from the start, each with the node ahead of it."""
        ahead = {self.start: None}
        due = [self.start]
        while due:
            node = due.pop(0)
            for other in self.room[node]:
                if other not in ahead and self.rest(node, other) > 0:
                    ahead[other] = node
                    due.append(other)
        return ahead

    def add_path(self, ahead):
        """Lets one more pass, to the end by the nodes ahead of it."""
        other = self.end
        while other != self.start:
            node = ahead[other]
            if self.pass_by(other, node) > 0:
                self.passing[(other, node)] -= 1
            else:
                self.passing[(node, other)] = self.pass_by(node, other) + 1
            other = node

    def fill(self):
        """Lets as many pass as can; tells the nodes to which one more could come, and how many pass."""
        many = 0
        ahead = self.reached()
        while self.end in ahead:
            self.add_path(ahead)
            many += 1
            ahead = self.reached()
        return (ahead, many)

    def take_path(self):
        """Takes a path of one that passes out of the net: its nodes between start and end."""
        path = []
        node = self.start
        while node != self.end:
            follow = [other for other in self.room[node] if self.pass_by(node, other) > 0][0]
            self.passing[(node, follow)] -= 1
            path.append(follow)
            node = follow
        return path[:-1]
