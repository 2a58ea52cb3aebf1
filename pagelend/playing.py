"""Playing: steps done by a new world, each answered or refused by name."""

from pagelend.clients import DONE, WAITS
from pagelend.errors import (
    Busy, Clean, NoClient, NoFile, NoLease, NoMessage, NoPage, NoTicks, NotWaiting, NoValue,
    TooMany)
from pagelend.setups import MOST
from pagelend.worlds import World


def answer_of(world, step):
    """Do a step; tell its answer, or the name of the class that refuses it."""
    try:
        return world.do(step)
    except NoClient:
        return "NoClient"
    except NoFile:
        return "NoFile"
    except NoPage:
        return "NoPage"
    except NoValue:
        return "NoValue"
    except Busy:
        return "Busy"
    except NotWaiting:
        return "NotWaiting"
    except NoTicks:
        return "NoTicks"
    except NoMessage:
        return "NoMessage"
    except Clean:
        return "Clean"
    except NoLease:
        return "NoLease"
    except TooMany:
        return "TooMany"


def is_refusal(answer):
    """Tell whether an answer is the name of a class that refuses."""
    return isinstance(answer, str) and answer not in (DONE, WAITS)


def play(setup, steps, *, most=MOST, halt=False):
    """Play steps with a new world; tell the answers and the world."""
    world = World(setup, most=most)
    answers = []
    for step in steps:
        answers.append(answer_of(world, step))
        if halt and is_refusal(answers[-1]):
            break
    return (answers, world)
