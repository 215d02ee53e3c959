"""Steps of both machines: a handler entered, a row done, a call or an end; and a turn of the kernel."""

from underfloor.bells import entered
from underfloor.errors import NoTask
from underfloor.forms import changed
from underfloor.kernelcalls import kernel_call, kernel_end
from underfloor.kernels import is_ready_task, kernel_row, refuse_unready
from underfloor.plaincalls import can_be_rung, plain_bell, plain_call, plain_end, rung_plain
from underfloor.plainrows import plain_row
from underfloor.plainstates import is_ready
from underfloor.turns import made_ready, next_turn, rows_of
from underfloor.words import is_whole

# With which code a task ends that meets a fault.
FAULT_CODES = {"code": 4294967281, "page": 4294967282, "cut": 4294967283}


def kernel_step(kernel, task):
    refuse_unready(kernel, task)
    row = kernel_row(changed(kernel, {"slots": entered(kernel["slots"], task)}), task)
    told = row[1]
    if told[0] == "fault":
        return (kernel_end(row[0], task, FAULT_CODES[told[1]]), told, False, None)
    if told[0] == "row":
        return (row[0], told, False, None)
    deed = kernel_call(row[0], task, told[1], told[2], told[3], told[4])
    return (deed[0], ("call", told[1]), deed[1], deed[2])


def plain_step(state, task, lack=False):
    if not is_ready(state, task):
        raise NoTask("this is no task that is ready")
    row = plain_row(plain_bell(state, task), task)
    told = row[1]
    if told[0] == "fault":
        return (plain_end(row[0], task, FAULT_CODES[told[1]]), told)
    if told[0] == "row":
        return (row[0], told)
    return (plain_call(row[0], task, told[1], told[2], told[3], told[4], lack), ("call", told[1]))


def kernel_turn(kernel):
    told = next_turn(kernel["turns"])
    task = told[1]
    if task is None:
        return (kernel, [])
    rank = kernel["slots"][task]["rank"]
    behind = changed(kernel, {"turns": made_ready(told[0], task, rank)})
    steps = []
    while len(steps) < rows_of(rank) and is_ready_task(behind, task):
        step = kernel_step(behind, task)
        steps.append((task, step[2], step[3]))
        behind = step[0]
    return (behind, steps)


def plain_ring(state, task):
    if not is_whole(task) or not can_be_rung(state, task):
        raise NoTask("this is no task that is there and has not ended")
    return rung_plain(state, task)
