"""The machines that are handed programs: by name, and shared."""

from slumberway.answers import ran, refuse_asked
from slumberway.cores import refuse
from slumberway.runs import Run

# No run goes by more parts, where none other is told.
MOST = 20000


def by_name(program, x, *, depth=20, most=MOST):
    """Tell the answer of a top, asked by name, and what it costs."""
    refuse_program(program, x, depth, most)
    return ran(Run(program, most, False, None), x, depth)


def shared(program, x, *, depth=20, most=MOST):
    """Tell the answer of a top, where no thing is asked twice, and what it costs."""
    refuse_program(program, x, depth, most)
    return ran(Run(program, most, True, None), x, depth)


def refuse_program(program, x, depth, most):
    """Refuse what is no program, then what it can't be asked."""
    refuse(program)
    refuse_asked([name for name, _ in program[2]], x, depth, most)
