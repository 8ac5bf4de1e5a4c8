"""Nets of gates: wires are counted from the inputs on, and each gate adds one."""

from guessedzeros.errors import NoName, NoWire, Taken


class Net:
    """Inputs, gates in the order in which they came, and lists of wires that are told by names."""

    def __init__(self, many):
        self.input_count = many
        self.made = []
        # Of each wire, kept as it comes: to go back through a long net would go too deep.
        self.depths = [0] * many
        self.by_name = {}

    def both(self, a, b):
        return self.put("both", (a, b))

    def either(self, a, b):
        return self.put("either", (a, b))

    def unlike(self, a, b):
        return self.put("unlike", (a, b))

    def other(self, a):
        return self.put("other", (a,))

    def fixed(self, bit):
        return self.put_gate(("fixed", bit), 0)

    def put(self, kind, wires):
        self.need(wires)
        depth = 1 + max([self.depths[wire] for wire in wires])
        return self.put_gate((kind, *wires), depth)

    def put_gate(self, gate, depth):
        self.made.append(gate)
        self.depths.append(depth)
        return len(self.depths) - 1

    def need(self, wires):
        for wire in wires:
            # Below 0, too: Python would count such a place from the end.
            if not 0 <= wire < len(self.depths):
                raise NoWire(wire)

    def give(self, name, wires):
        if name in self.by_name:
            raise Taken(name)
        self.need(wires)
        self.by_name[name] = list(wires)

    def given(self, name):
        if name not in self.by_name:
            raise NoName(name)
        return list(self.by_name[name])

    def names(self):
        return sorted(list(self.by_name))

    def inputs(self):
        return self.input_count

    def gates(self):
        return list(self.made)

    def depth(self, wire):
        self.need((wire,))
        return self.depths[wire]

    def __len__(self):
        return len(self.made)

    def like(self):
        twin = Net(self.input_count)
        twin.made = list(self.made)
        twin.depths = list(self.depths)
        twin.by_name = {name: list(self.by_name[name]) for name in self.by_name}
        return twin
