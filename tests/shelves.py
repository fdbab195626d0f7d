"""A store of the tests: lists of entries, each in its order."""


class OwnStore:
    def __init__(self, size, picks, linking):
        self.size, self.picks, self.linking = size, picks, linking
        self.put_order, self.use_order, self.links, self.rows, self.used = [], [], set(), {}, 0

    def throw(self, entry):
        if entry not in self.rows:
            return False
        del self.rows[entry]
        self.put_order.remove(entry)
        self.use_order.remove(entry)
        self.links = {(one, other) for one, other in self.links if entry != one and entry != other}
        return True

    def put(self, entry, row):
        gone = ()
        if entry in self.rows:
            gone = (entry,)
        elif len(self.rows) == self.size:
            if self.picks == "oldest":
                gone = (self.put_order[0],)
            elif self.picks == "idle":
                gone = (self.use_order[0],)
            else:
                numbers = list(self.picks) or [0]
                gone = (sorted(self.rows)[numbers[self.used % len(numbers)] % self.size],)
                self.used += 1
        for one in gone:
            self.throw(one)
        self.rows[entry] = row
        self.put_order.append(entry)
        self.use_order.append(entry)
        return gone

    def use(self, entry):
        self.use_order.remove(entry)
        self.use_order.append(entry)

    def lay(self, entry, place):
        if self.linking and entry in self.rows and place in self.rows and (entry, place) not in self.links:
            self.links.add((entry, place))
            return True
        return False
