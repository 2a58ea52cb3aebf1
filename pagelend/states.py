"""All that stands in a world, with each change kept so that it can be undone."""


def assign(table, key, fact):
    """Put a fact into a table; None takes it out."""
    if fact is None:
        table.pop(key, None)
    else:
        table[key] = fact


class State:
    """The tables of a world. They hold no lists, and no None: what is None is left out.

    A table is changed by change alone, as undo knows of no other change.
    """

    def __init__(self, setup):
        files, clients, length, drift = setup
        self.setup = setup
        self.pages = {name: pages for name, pages in files}
        self.clocks = {name: (rate, ahead) for name, rate, ahead in clients}
        self.length = length
        self.drift = drift
        self.journal = []
        self.counts = {"time": 0, "quiet": 0, "marks": 0, "tasks": 0, "sent": 0}
        self.rows = {}
        self.post = {}
        self.begin_server()
        self.begin_clients()

    def begin_server(self):
        """Begin the tables of the server, by files and pages."""
        places = [(file, page) for file in self.pages for page in range(self.pages[file])]
        self.contents = {place: 0 for place in places}
        self.stamps = {place: (0, 0) for place in places}
        self.lent = {file: () for file in self.pages}
        self.lines = {file: () for file in self.pages}

    def begin_clients(self):
        """Begin the tables of the clients, by clients, or by pairs of client and file."""
        pairs = [(client, file) for client in self.clocks for file in self.pages]
        self.leases = {}
        self.askings = {}
        self.tasks = {}
        self.copies = {pair: () for pair in pairs}
        self.unheard = {pair: () for pair in pairs}
        self.recalled = {pair: 0 for pair in pairs}
        self.written = {client: 0 for client in self.clocks}
        # Writes done under a hold that stands, some saved since: what the
        # server may still have to tell as lost. By pairs, then by tasks.
        self.unsaved = {pair: {} for pair in pairs}

    def stands(self):
        """Tell what makes two worlds equal; unsaved is no part of it, as it is not told."""
        server = (self.contents, self.stamps, self.lent, self.lines, self.post, self.rows)
        clients = (self.leases, self.askings, self.tasks, self.copies, self.unheard)
        return (self.setup, self.counts, server, clients, self.recalled, self.written)

    def change(self, table, key, fact):
        """Put a fact into a table of this state."""
        self.journal.append((table, key, table.get(key)))
        assign(table, key, fact)

    def undo(self, many):
        """Undo changes, the last one first, until so many are left."""
        while len(self.journal) > many:
            table, key, fact = self.journal.pop()
            assign(table, key, fact)

    def now(self):
        """Tell the time."""
        return self.counts["time"]

    def another(self, what):
        """Count one more of them, and tell how many there were ahead of it."""
        number = self.counts[what]
        self.change(self.counts, what, number + 1)
        return number

    def send(self, source, to, what):
        """Put a message on the wire, and tell its number."""
        number = self.another("sent")
        self.change(self.post, number, (number, source, to, what))
        return number

    def tell(self, word, client, task, value):
        """Put a row of a task into the log."""
        row = (self.now(), word, task[0], client, task[2], task[3], value)
        self.change(self.rows, len(self.rows), row)

    def log_rows(self):
        """Tell the log, a new list."""
        return [self.rows[at] for at in range(len(self.rows))]
