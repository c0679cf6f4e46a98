"""The house: it leads the plan of a fleet while restarts happen, and never books a machine twice."""

from sparehop.days import begun_pins
from sparehop.edits import edited
from sparehop.errors import NoLease, NoNumber, Nothing, Wrong
from sparehop.fleets import size
from sparehop.forms import are_pins, are_prices, is_fleet, is_integer, is_lease, is_plan
from sparehop.heights import cheapest
from sparehop.leading import refuse_barred
from sparehop.merges import merged
from sparehop.plans import machines_in, spare_in
from sparehop.wishes import are_wishes


def refuse_no_house(fleet, plan, pins):
    """Refuse the first of the arguments of a House that is not as described."""
    if not is_fleet(fleet):
        raise Wrong(0)
    if not is_plan(fleet, plan):
        raise Wrong(1)
    if not are_pins(fleet, pins):
        raise Wrong(2)


def is_number(thing):
    """Tell whether a value is an integer from 0 on."""
    return is_integer(thing) and thing >= 0


class House:
    """A FLEET, the VERSIONS of its PLAN, its PINS, and the stretch that is now."""

    def __init__(self, fleet, plan, pins):
        refuse_no_house(fleet, plan, pins)
        self._fleet = fleet
        self._plans = [plan]
        self._pins = pins
        self._now = 0
        self._lines = []

    def __eq__(self, other):
        """Tell whether another value is a House in the same state, with the same log."""
        return (isinstance(other, House) and self._fleet == other._fleet and self._plans == other._plans
                and self._pins == other._pins and self._now == other._now and self._lines == other._lines)

    def fleet(self):
        """Return the FLEET."""
        return self._fleet

    def plan(self):
        """Return the PLAN of the last VERSION."""
        return self._plans[-1]

    def pins(self):
        """Return the PINS."""
        return self._pins

    def now(self):
        """Return the number of the stretch that is now."""
        return self._now

    def version(self):
        """Return the number of the last VERSION."""
        return len(self._plans) - 1

    def held(self):
        """Return the PINS that hold now: those that are kept, and the leases that have begun."""
        return begun_pins(self._fleet, self._pins, self._now)

    def machines(self):
        """Return the dict from the services to the machines on which they run now."""
        machines = machines_in(self._fleet, self.plan(), self._now)
        return {service: machine for service, machine in zip(self._fleet[0], machines)}

    def spare(self):
        """Return the machine that is SPARE now."""
        return spare_in(self._fleet, self.plan(), self._now)

    def plan_of(self, version):
        """Return the PLAN of a VERSION."""
        if not is_number(version):
            raise Wrong(0)
        if version >= len(self._plans):
            raise NoNumber(len(self._plans))
        return self._plans[version]

    def _become(self, plan):
        """Make a PLAN the next VERSION, if it is another one than before."""
        if plan != self.plan():
            self._plans.append(plan)
            self._lines.append(" ".join(["plan", *[str(hop) for hop in plan]]))

    def _lead_to(self, plan):
        """Lead to a PLAN, if what is held does not bar it."""
        refuse_barred(self._fleet, self.held(), self.plan(), plan)
        self._become(plan)

    def edit(self, lease):
        """Do an EDIT."""
        if not is_lease(self._fleet, lease):
            raise Wrong(0)
        self._become(edited(self._fleet, self.plan(), self.held(), lease))

    def lead(self, plan):
        """Lead to a PLAN."""
        if not is_plan(self._fleet, plan):
            raise Wrong(0)
        self._lead_to(plan)

    def propose(self, version, plan):
        """Take up a PLAN that somebody made from a VERSION."""
        if not is_number(version):
            raise Wrong(0)
        if not is_plan(self._fleet, plan):
            raise Wrong(1)
        self._lead_to(merged(self._fleet, self.plan_of(version), self.plan(), plan))

    def take_back(self, version):
        """Take back what a VERSION changed, and keep what later ones changed."""
        # Only for its errors: they come ahead of the one of VERSION 0.
        self.plan_of(version)
        if version == 0:
            raise Nothing()
        self.propose(version, self.plan_of(version - 1))

    def grant(self, wishes, prices):
        """Lead to the cheapest PLAN that GRANTS all WISHES."""
        if not are_wishes(self._fleet, wishes):
            raise Wrong(0)
        if not are_prices(self._fleet, prices):
            raise Wrong(1)
        self._become(cheapest(self._fleet, self.held(), self.plan(), wishes, prices))

    def _refuse_no_pin(self, lease):
        """Refuse a value that is no LEASE, or a FIRST one."""
        if not is_lease(self._fleet, lease) or lease[1] == 0:
            raise Wrong(0)

    def pin(self, lease):
        """Put a LEASE into the PINS."""
        self._refuse_no_pin(lease)
        if lease not in self._pins:
            self._pins = tuple(sorted([*self._pins, lease]))
            self._lines.append(f"pin {lease[0]} {lease[1]}")

    def unpin(self, lease):
        """Take a LEASE out of the PINS."""
        self._refuse_no_pin(lease)
        if lease not in self._pins:
            raise NoLease(lease)
        self._pins = tuple([other for other in self._pins if other != lease])
        self._lines.append(f"unpin {lease[0]} {lease[1]}")

    def pass_restart(self):
        """Let the next restart happen."""
        if self._now == size(self._fleet):
            raise Nothing()
        self._now = self._now + 1
        self._lines.append("pass")

    def log(self):
        """Return a text with a line for each change, in order, each with a line feed behind it."""
        return "".join([line + "\n" for line in self._lines])

    def twin(self):
        """Return an independent House in the same state."""
        other = House(self._fleet, self._plans[0], self._pins)
        other._plans = list(self._plans)
        other._now = self._now
        other._lines = list(self._lines)
        return other
