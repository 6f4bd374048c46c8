"""A second world, written from the document alone: rows of feeds are shared objects, tables are lists."""


class Row:
    def __init__(self, fetching, length):
        self.fetching, self.taken, self.length = fetching, 0, length


class ModelWorld:
    def __init__(self, *things):
        self.kinds = {thing.name: thing.kind for thing in things}
        self.parts = {thing.name: thing.parts for thing in things}
        begin = {
            "feed": lambda: Row(0, 0), "dice": lambda: [0, 0], "table": list, "source": lambda: 0,
            "field": lambda: None, "flag": lambda: False, "slot": lambda: None,
        }
        self.held = {thing.name: begin[thing.kind]() for thing in things}
        self.fetchings = self.seedings = self.serials = 0

    def serial(self):
        self.serials += 1
        return self.serials

    def content(self, name):
        held = self.held[name]
        if self.kinds[name] == "feed":
            return held.fetching, held.taken, held.length
        if self.kinds[name] == "dice":
            return tuple(held)
        if self.kinds[name] == "table":
            return tuple((key, value) for key, value in held)
        return held

    def do(self, deed):
        return getattr(self, "do_" + self.kinds[deed[1]])(*deed)

    def do_feed(self, word, name, more=None):
        row = self.held[name]
        if word in ("take", "skip") and row.taken < row.length:
            row.taken += 1
            return (row.fetching, row.taken - 1) if word == "take" else None
        if word == "drain":
            row.taken = row.length
        if word == "fetch":
            self.fetchings += 1
            self.held[name] = Row(self.fetchings, more)
        if word == "bind":
            self.held[name] = self.held[more]
        return None

    def do_dice(self, word, name):
        if word == "roll":
            self.held[name][1] += 1
            return self.held[name][0], self.held[name][1] - 1
        if word == "seed":
            self.seedings += 1
            self.held[name] = [self.seedings, 0]
        return None

    def do_table(self, word, name, more=None):
        entries = self.held[name]
        found = [entry for entry in entries if entry[0] == more]
        if word == "get":
            if not found:
                entries.append([more, 0])
            return entries[-1][1] if not found else found[0][1]
        if word == "peek":
            return found[0][1] if found else None
        if word == "has":
            return bool(found)
        if word in ("put", "fill"):
            serial = self.serial()
            if not found:
                entries.append([more, serial])
            elif word == "put":
                found[0][1] = serial
        if word == "drop":
            self.held[name] = [entry for entry in entries if entry[0] != more]
        if word == "size":
            return len(entries)
        if word == "keys":
            return tuple(entry[0] for entry in entries)
        if word == "load":
            self.held[name] = [[key, self.serial()] for key in self.parts[name] if key in more]
        if word == "wipe":
            self.held[name] = []
        return None

    def do_source(self, word, name):
        if word == "change":
            self.held[name] = self.serial()

    def do_field(self, word, name):
        if word == "renew":
            self.held[name] = None
        if word == "look" and self.held[name] is None:
            over = self.parts[name][0]
            self.held[name] = self.held[over] if self.kinds[over] == "source" else self.do_field("look", over)
        return None if word in ("renew", "spy") else self.held[name]

    def do_flag(self, word, name):
        lifted = self.held[name]
        if word in ("lift", "read"):
            self.held[name] = word == "lift"
        return lifted if word in ("read", "watch") else None

    def do_slot(self, word, name, more=None):
        if word == "keep":
            self.held[name] = self.serial()
        if word == "copy":
            self.held[name] = self.held[more]
        if word == "mark":
            self.held[name] = more
        if word == "tell":
            return self.held[name]
        if word == "bound":
            return self.held[name] is not None
        return None
