"""What a house keeps, and the calls that change it.

Each change answers a list: 0 and what else is told, or the refusal's number alone:
-3 it's begun already, -4 there are 8 already, -5 no such load, -7 the amounts don't
fit together, -8 no such period. All arguments are within their ranges here.
"""


class House:
    """The periods' bases, the loads' needs and rooms, and how many periods have passed."""

    def __init__(self):
        self.begun = False
        self.bases = []
        self.needs = []
        self.rooms = []
        self.passed = 0

    def begin(self, periods):
        if self.begun:
            return [-3]
        self.begun = True
        self.bases = [0] * periods
        return [0]

    def add_load(self, need, rooms):
        if len(rooms) != len(self.bases) or sum(rooms) < need:
            return [-7]
        if len(self.needs) == 8:
            return [-4]
        self.needs.append(need)
        self.rooms.append(list(rooms))
        return [0, len(self.needs)]

    def change_need(self, load, amount):
        if load > len(self.needs):
            return [-5]
        if amount > sum(self.rooms[load - 1]):
            return [-7]
        self.needs[load - 1] = amount
        return [0]

    def change_room(self, load, period, amount):
        if load > len(self.needs):
            return [-5]
        if period > len(self.bases):
            return [-8]
        changed = list(self.rooms[load - 1])
        changed[period - 1] = amount
        if sum(changed) < self.needs[load - 1]:
            return [-7]
        self.rooms[load - 1] = changed
        return [0]

    def change_base(self, period, amount):
        if period > len(self.bases):
            return [-8]
        self.bases[period - 1] = amount
        return [0]

    def add_period(self):
        if len(self.bases) == 8:
            return [-4]
        self.bases.append(0)
        self.rooms = [rooms + [0] for rooms in self.rooms]
        return [0]

    def pass_on(self, gets):
        if len(self.bases) == 0:
            return [-8]
        if not self.can_get(gets):
            return [-7]
        total = self.bases[0] + sum(gets)
        self.needs = [need - got for need, got in zip(self.needs, gets)]
        self.rooms = [rooms[1:] for rooms in self.rooms]
        self.bases = self.bases[1:]
        self.passed += 1
        return [0, total]

    def can_get(self, gets):
        """Whether the loads can get these amounts in period 1, and all that's left of their needs later."""
        if len(gets) != len(self.needs):
            return False
        for got, need, rooms in zip(gets, self.needs, self.rooms):
            if got > rooms[0] or got > need or need - got > sum(rooms[1:]):
                return False
        return True
