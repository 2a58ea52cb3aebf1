"""A plain model of a world, sentence by sentence as the document has it.

It shares nothing with the package: whole states are copied to take things back,
all writes are gone through whenever some are lost, and nothing is done smartly.
The numbers in brackets are those of the document's points.
"""

import copy


class Refused(Exception):
    def __init__(self, name, *fields):
        super().__init__(name, *fields)
        self.name = name
        self.fields = fields


class Model:
    def __init__(self, setup, most=300):
        self.files, self.clients, self.length, self.drift = setup
        self.pages = dict(self.files)
        self.clocks = {name: (rate, ahead) for name, rate, ahead in self.clients}
        self.most = most
        self.things = []
        self.time = self.quiet = self.marks = self.tasks = self.messages = 0
        self.wire = {}
        self.log = []
        self.writes = []
        self.server = {}
        for file, pages in self.files:
            self.server[file] = {
                "values": [0] * pages, "stamps": [(0, 0)] * pages, "holds": {}, "queue": []}
        self.client = {}
        for name in self.clocks:
            self.client[name] = {"numbers": 0, "task": None, "files": self.nothing()}

    def nothing(self):
        return {
            file: {"lease": None, "copy": None, "dirty": {}, "asking": None, "greatest": 0}
            for file in self.pages}

    # [17], [18]
    STANDING = "time quiet marks tasks messages wire log writes server client".split()

    def whole(self):
        return copy.deepcopy({name: getattr(self, name) for name in self.STANDING})

    def put_whole(self, whole):
        for name in self.STANDING:
            setattr(self, name, whole[name])

    def together(self, steps):
        before = self.whole()
        try:
            answers = [self.step(step) for step in steps]
            if len(self.things) == self.most:
                raise Refused("TooMany", self.most)
        except Refused:
            self.put_whole(before)
            raise
        self.things.append(before)
        return answers

    def do(self, step):
        return self.together([step])[0]

    def take_back(self):
        if not self.things:
            raise Refused("NothingLeft")
        self.put_whole(self.things.pop())

    def step(self, step):
        answer = getattr(self, "step_" + step[0])(*step[1:])
        return "done" if answer is None else answer

    # Refusals
    def need_client(self, client):
        if client not in self.clocks:
            raise Refused("NoClient", client)

    def need_file(self, file):
        if file not in self.pages:
            raise Refused("NoFile", file)

    def need_page(self, file, page):
        if page not in range(self.pages[file]):
            raise Refused("NoPage", page)

    # [7], [8]
    def step_read(self, client, file, page):
        self.need_client(client)
        self.need_file(file)
        self.need_page(file, page)
        return self.task(client, "read", file, page, None)

    def step_write(self, client, file, page, value):
        self.need_client(client)
        self.need_file(file)
        self.need_page(file, page)
        if value not in range(1, 1000):
            raise Refused("NoValue")
        return self.task(client, "write", file, page, value)

    def task(self, client, kind, file, page, value):
        if self.client[client]["task"] is not None:
            raise Refused("Busy", client)
        task = (self.tasks, kind, file, page, value)
        self.tasks += 1
        self.row("began", client, task, value)
        if self.can(client, kind, file):
            return self.perform(client, task)
        self.client[client]["task"] = task
        self.asks(client)
        return "waits"

    def step_ask(self, client):
        self.need_client(client)
        if self.client[client]["task"] is None:
            raise Refused("NotWaiting", client)
        self.asks(client)

    def asks(self, client):
        _, kind, file, _, _ = self.client[client]["task"]
        mine = self.client[client]["files"][file]
        mark = mine["lease"][1] if mine["lease"] else 0
        number = self.send(client, "server", ("ask", file, kind, mark))
        mine["asking"] = (number, self.time)

    def send(self, source, to, what):
        number = self.messages
        self.messages += 1
        self.wire[number] = (number, source, to, what)
        return number

    def shown(self, client, time):
        rate, ahead = self.clocks[client]
        return (time * rate + ahead) // 100

    def uses(self, client, file):
        lease = self.client[client]["files"][file]["lease"]
        if lease is None:
            return False
        more = self.shown(client, self.time) - self.shown(client, lease[2])
        return more < self.length * (100 - self.drift) // 100

    def can(self, client, kind, file):
        lease = self.client[client]["files"][file]["lease"]
        return self.uses(client, file) and (kind == "read" or lease[0] == "write")

    def perform(self, client, task):
        _, kind, file, page, value = task
        mine = self.client[client]["files"][file]
        if kind == "read":
            self.row("read", client, task, mine["copy"][page])
            return mine["copy"][page]
        mine["copy"][page] = value
        self.client[client]["numbers"] += 1
        number = self.client[client]["numbers"]
        mark = mine["lease"][1]
        mine["dirty"][page] = (value, mark, number)
        self.row("wrote", client, task, value)
        write = {"client": client, "task": task, "mark": mark, "number": number, "lost": False}
        self.writes.append(write)
        # [12], at its end
        if not self.counts(client, file, mark):
            self.lose(write)
        return "done"

    def row(self, word, client, task, value):
        number, _, file, page, _ = task
        self.log.append((self.time, word, number, client, file, page, value))

    # [9]
    def on_ask(self, client, number, file, kind, mark):
        here = self.server[file]
        newer = [row for row in here["queue"] if row[0] == client and row[2] > number]
        hold = here["holds"].get(client)
        if hold is not None and hold["number"] > number:
            newer.append(hold)
        if not newer:
            here["queue"] = [row for row in here["queue"] if row[0] != client]
            here["queue"].append((client, kind, number, mark))
        self.serve(file)

    # [10]
    def serve(self, file):
        here = self.server[file]
        while here["queue"]:
            client, kind, number, mark = here["queue"][0]
            for other in self.in_way(file, client, kind):
                if here["holds"][other]["end"] <= self.time:
                    self.take_away(file, other)
            if kind == "write" and self.time < self.quiet:
                return
            left = self.in_way(file, client, kind)
            for other in left:
                hold = here["holds"][other]
                if not hold["called"]:
                    self.send("server", other, ("recall", file, hold["mark"]))
                    hold["called"] = True
            if left:
                return
            here["queue"].pop(0)
            self.grant(file, client, kind, number, mark)

    def in_way(self, file, client, kind):
        holds = self.server[file]["holds"]
        others = sorted(name for name in holds if name != client)
        if kind == "read":
            others = [name for name in others if holds[name]["kind"] == "write"]
        return others

    # [11]
    def grant(self, file, client, kind, number, mark):
        here = self.server[file]
        own = here["holds"].get(client)
        kept = own is not None and own["low"] <= mark <= own["mark"]
        if own is not None and not kept:
            self.take_away(file, client)
        self.marks += 1
        hold = {
            "kind": "write" if kept and own["kind"] == "write" else kind,
            "low": own["low"] if kept else self.marks, "mark": self.marks,
            "end": self.time + self.length, "called": False, "number": number}
        here["holds"][client] = hold
        values = () if kept else tuple(here["values"])
        what = ("grant", file, hold["kind"], hold["mark"], kept, values, number)
        self.send("server", client, what)

    # [12]
    def take_away(self, file, client):
        del self.server[file]["holds"][client]
        for write in sorted(self.writes, key=lambda write: write["task"][0]):
            if write["client"] == client and write["task"][2] == file:
                if not write["lost"] and not self.saved(write):
                    self.lose(write)

    def saved(self, write):
        _, _, file, page, _ = write["task"]
        return self.server[file]["stamps"][page] >= (write["mark"], write["number"])

    def lose(self, write):
        write["lost"] = True
        self.row("lost", write["client"], write["task"], write["task"][4])

    def counts(self, client, file, mark):
        hold = self.server[file]["holds"].get(client)
        return hold is not None and hold["low"] <= mark <= hold["mark"]

    # [13]
    def on_rows(self, client, word, file, mark, rows):
        here = self.server[file]
        counting = [self.counts(client, file, row[2]) for row in rows]
        assert len(set(counting)) < 2, "of one message all rows count, or none"
        for page, value, row_mark, number in rows:
            if all(counting) and (row_mark, number) > here["stamps"][page]:
                here["values"][page] = value
                here["stamps"][page] = (row_mark, number)
        if word == "save" and all(counting):
            self.send("server", client, ("saved", file, mark, rows))
        if not all(counting):
            self.send("server", client, ("fenced", file, mark))
        if word == "back":
            if client in here["holds"] and here["holds"][client]["mark"] == mark:
                self.take_away(file, client)
            self.serve(file)

    # [14]
    def on_grant(self, client, file, kind, mark, kept, values, number):
        mine = self.client[client]["files"][file]
        if mine["asking"] is None or mine["asking"][0] != number:
            return
        asked = mine["asking"][1]
        mine["asking"] = None
        if mark <= mine["greatest"] or (kept and mine["lease"] is None):
            return
        mine["lease"] = (kind, mark, asked)
        if not kept:
            mine["copy"] = list(values)
            mine["dirty"] = {}
        task = self.client[client]["task"]
        if task is not None and task[2] == file and self.can(client, task[1], file):
            self.client[client]["task"] = None
            self.perform(client, task)

    def on_recall(self, client, file, mark):
        mine = self.client[client]["files"][file]
        if mine["lease"] is not None and mine["lease"][1] > mark:
            return
        self.send(client, "server", ("back", file, mark, self.rows(client, file)))
        self.no_lease(client, file)
        mine["greatest"] = max(mine["greatest"], mark)

    def rows(self, client, file):
        dirty = self.client[client]["files"][file]["dirty"]
        return tuple((page, *dirty[page]) for page in sorted(dirty))

    def no_lease(self, client, file):
        self.client[client]["files"][file].update(lease=None, copy=None, dirty={})

    def on_saved(self, client, file, mark, rows):
        dirty = self.client[client]["files"][file]["dirty"]
        for page, _, row_mark, number in rows:
            if page in dirty and dirty[page][1:] <= (row_mark, number):
                del dirty[page]

    def on_fenced(self, client, file, mark):
        lease = self.client[client]["files"][file]["lease"]
        if lease is not None and lease[1] == mark:
            self.no_lease(client, file)

    # [15]
    def step_pass(self, ticks):
        if ticks not in range(1, 10 ** 6 + 1):
            raise Refused("NoTicks")
        self.time += ticks
        for file in sorted(self.pages):
            self.serve(file)

    def off_the_wire(self, number):
        if number not in self.wire:
            raise Refused("NoMessage", number)
        return self.wire.pop(number)

    def step_deliver(self, number):
        _, source, to, what = self.off_the_wire(number)
        if what[0] == "ask":
            self.on_ask(source, number, *what[1:])
        elif what[0] in ("save", "back"):
            self.on_rows(source, *what)
        else:
            getattr(self, "on_" + what[0])(to, *what[1:])

    def step_drop(self, number):
        self.off_the_wire(number)

    def step_save(self, client, file):
        self.need_client(client)
        self.need_file(file)
        mine = self.client[client]["files"][file]
        if not mine["dirty"]:
            raise Refused("Clean")
        what = ("save", file, mine["lease"][1], self.rows(client, file))
        self.send(client, "server", what)

    def step_yield(self, client, file):
        self.need_client(client)
        self.need_file(file)
        lease = self.client[client]["files"][file]["lease"]
        if lease is None:
            raise Refused("NoLease")
        self.on_recall(client, file, lease[1])

    def step_fall(self, client):
        self.need_client(client)
        self.client[client]["files"] = self.nothing()
        self.client[client]["task"] = None

    def step_crash(self):
        for here in self.server.values():
            here["queue"] = []
            for client in list(here["holds"]):
                if here["holds"][client]["kind"] == "read":
                    del here["holds"][client]
                else:
                    here["holds"][client].update(end=self.time + self.length, called=False)
        self.quiet = self.time + self.length

    # [16], [17]
    def told(self):
        told = {
            "time": self.time, "quiet": self.quiet, "sent": self.messages,
            "wire": [self.wire[number] for number in sorted(self.wire)], "log": list(self.log),
            "lost": sorted(write["task"][0] for write in self.writes if write["lost"])}
        for file in self.pages:
            here = self.server[file]
            told[file, "values"] = list(here["values"])
            told[file, "stamps"] = list(here["stamps"])
            told[file, "queue"] = list(here["queue"])
            told[file, "holds"] = [
                (client, *[hold[part] for part in "kind low mark end called number".split()])
                for client, hold in sorted(here["holds"].items())]
        for client in self.clocks:
            told[client, "waiting"] = self.client[client]["task"]
            for file in self.pages:
                mine = self.client[client]["files"][file]
                told[client, file] = (
                    mine["lease"], self.uses(client, file), tuple(mine["copy"] or ()),
                    list(self.rows(client, file)), mine["asking"], mine["greatest"])
        return told
