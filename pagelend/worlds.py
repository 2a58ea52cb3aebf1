"""Worlds: a server and its clients, what they do and all that stands."""

from pagelend.clients import DONE, WAITS, uses_lease
from pagelend.errors import LendError, NoSetup, NothingLeft, TooMany
from pagelend.setups import MOST, is_setup
from pagelend.states import State
from pagelend.steps import check_client, check_file, check_page, check_pair, do_step


class World:
    """A world of a setup, which does at most so many things."""

    def __init__(self, setup, *, most=MOST):
        if not is_setup(setup):
            raise NoSetup("a world is made of a setup")
        self.state = State(setup)
        self.most = most
        # How many changes there were ahead of each thing done.
        self.starts = []

    def __len__(self):
        return len(self.state.post)

    def __eq__(self, other):
        if not isinstance(other, World):
            return False
        return self.state.stands() == other.state.stands()

    def do(self, step):
        """Do one step, and tell its answer."""
        return self.together([step])[0]

    def together(self, steps):
        """Do several steps as one thing, and tell their answers."""
        start = len(self.state.journal)
        answers = []
        try:
            for step in steps:
                answers.append(do_step(self.state, step))
        except LendError:
            self.state.undo(start)
            raise
        # Only here it is known that there is no other refusal.
        if len(self.starts) >= self.most:
            self.state.undo(start)
            raise TooMany(self.most)
        self.starts.append(start)
        return answers

    def take_back(self):
        """Take back what was done last."""
        if not self.starts:
            raise NothingLeft("nothing was done that is not taken back")
        self.state.undo(self.starts.pop())

    def read(self, client, file, page):
        """Let a client read a page; tell what it saw, None where it waits."""
        answer = self.do(("read", client, file, page))
        return None if answer == WAITS else answer

    def write(self, client, file, page, value):
        """Let a client write a value; tell True, None where it waits."""
        answer = self.do(("write", client, file, page, value))
        return True if answer == DONE else None

    def ask(self, client):
        """Let a client ask anew."""
        self.do(("ask", client))

    def go_on(self, ticks=1):
        """Let time pass."""
        self.do(("pass", ticks))

    def deliver(self, number):
        """Deliver a message."""
        self.do(("deliver", number))

    def drop(self, number):
        """Drop a message."""
        self.do(("drop", number))

    def save(self, client, file):
        """Let a client save what is dirty of a file."""
        self.do(("save", client, file))

    def give_back(self, client, file):
        """Let a client give its lease of a file back."""
        self.do(("yield", client, file))

    def fall(self, client):
        """Let a client fall."""
        self.do(("fall", client))

    def crash(self):
        """Let the server fall."""
        self.do(("crash",))

    def time(self):
        """Tell the time."""
        return self.state.now()

    def quiet(self):
        """Tell the quiet time."""
        return self.state.counts["quiet"]

    def sent(self):
        """Tell how many messages were sent in all."""
        return self.state.counts["sent"]

    def value(self, file, page):
        """Tell the server's value of a page."""
        check_page(self.state, file, page)
        return self.state.contents[(file, page)]

    def stamp(self, file, page):
        """Tell the server's stamp of a page, (mark, number)."""
        check_page(self.state, file, page)
        return self.state.stamps[(file, page)]

    def holds(self, file):
        """Tell the holds of a file: (client, kind, low, mark, end, called, number)."""
        check_file(self.state, file)
        return list(self.state.lent[file])

    def queue(self, file):
        """Tell the queue of a file: (client, kind, number, mark)."""
        check_file(self.state, file)
        return list(self.state.lines[file])

    def wire(self, *, to=None):
        """Tell the messages on the wire, all or those to one: (number, from, to, what)."""
        numbers = sorted(self.state.post)
        messages = [self.state.post[number] for number in numbers]
        return [message for message in messages if to is None or message[2] == to]

    def lease(self, client, file):
        """Tell a client's lease of a file, (kind, mark, asked), or None."""
        check_pair(self.state, client, file)
        return self.state.leases.get((client, file))

    def uses(self, client, file):
        """Tell whether a client uses its lease of a file now."""
        check_pair(self.state, client, file)
        return uses_lease(self.state, client, file)

    def held(self, client, file):
        """Tell a client's copy of a file, empty without a lease."""
        check_pair(self.state, client, file)
        return self.state.copies[(client, file)]

    def dirty(self, client, file):
        """Tell what a client did not hear as saved: (page, value, mark, number)."""
        check_pair(self.state, client, file)
        return list(self.state.unheard[(client, file)])

    def asking(self, client, file):
        """Tell a client's asking of a file, (number, time), or None."""
        check_pair(self.state, client, file)
        return self.state.askings.get((client, file))

    def greatest(self, client, file):
        """Tell the greatest mark of a file that a client was recalled or gave back."""
        check_pair(self.state, client, file)
        return self.state.recalled[(client, file)]

    def waiting(self, client):
        """Tell a client's task that waits, (task, kind, file, page, value), or None."""
        check_client(self.state, client)
        return self.state.tasks.get(client)

    def log(self, *, word=None, client=None, since=0):
        """Tell the log, whole or in part: (time, word, task, client, file, page, value)."""
        rows = [row for row in self.state.log_rows() if row[0] >= since]
        rows = [row for row in rows if word is None or row[1] == word]
        return [row for row in rows if client is None or row[3] == client]

    def lost(self):
        """Tell the tasks lost, rising."""
        return sorted([row[2] for row in self.log(word="lost")])
