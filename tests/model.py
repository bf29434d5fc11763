"""The document's calls told once more, slowly and by fractions, to hold the program against."""

from copy import deepcopy
from fractions import Fraction

RANGES = {
    0: [], 1: [], 2: [(1, 10)], 3: [(1, 10), (0, 24), (0, 4)], 4: [(1, 10), (1, 10 ** 6), (1, 10 ** 6)],
    6: [(1, 150)], 7: [(1, 24), (1, 24), (-10 ** 9, 10 ** 9)], 8: [], 9: [], 10: [(1, 1000)],
    11: [(1, 24)], 12: [(1, 24)], 13: [(1, 24), (0, 3999)], 14: [(1, 24)], 15: [], 16: [(1, 150)],
    17: [(1, 24), (0, 150)], 18: [(1, 24), (0, 3999)], 19: [], 20: [(1, 24)] + [(-10 ** 9, 10 ** 9)] * 3,
    21: [(1, 10), (0, 3999)], 22: [(1, 10)], 23: [(1, 24)], 24: [],
}
NAMES = ["start", "coin", "thing", "new", "tell", "post", "correct", "move", "revalue", "close", "wait", "balance",
         "lots", "worth", "tree", "trial", "info", "known", "known_on", "gains", "would", "rate_on", "unit",
         "account", "state"]


class Refused(Exception):
    pass


def refuse(number, due):
    if due:
        raise Refused(number)


def nearest(exact):
    whole = int(abs(exact) + Fraction(1, 2))
    return whole if exact >= 0 else -whole


def part(x, n, d):
    return nearest(Fraction(x * n, d)) if d else 0


def sign(x):
    return (x > 0) - (x < 0)


class Model:
    def __init__(self):
        self.unit = None
        self.day = 0
        self.rate = {}
        self.rates = 0
        self.account = {}
        self.entry = {}
        self.done = [0, 0]
        self.closed = [0, 0]

    def ask(self, call):
        try:
            return [0] + self.do(call)
        except Refused as refused:
            return [refused.args[0]]

    def do(self, call):
        number, rest = call[0], call[1:]
        if number == 5:
            rest = rest[1:]
            refuse(-1, len(rest) not in (4, 8, 12, 16, 20, 24))
            refuse(-1, any(not 1 <= a <= 24 for a in rest[::4]))
            refuse(-1, any(abs(x) > 10 ** 9 for k, x in enumerate(rest) if k % 4))
            lines = list(zip(rest[::4], rest[1::4], rest[2::4], rest[3::4]))
            rest = [lines]
        else:
            refuse(-1, any(not low <= x <= high for x, (low, high) in zip(rest, RANGES[number])))
        refuse(-2, number != 0 and self.unit is None)
        return getattr(self, "do_" + NAMES[number])(*rest)

    def do_start(self):
        refuse(-3, self.unit is not None)
        self.unit = {1: 1}
        return []

    def do_coin(self):
        refuse(-4, len(self.unit) > 9)
        number = len(self.unit) + 1
        self.unit[number] = number
        return [number]

    def do_thing(self, coin):
        refuse(-5, self.unit.get(coin) != coin)
        refuse(-4, len(self.unit) > 9)
        self.unit[len(self.unit) + 1] = coin
        return [len(self.unit)]

    def do_new(self, unit, parent, rule):
        refuse(-5, unit not in self.unit)
        refuse(-6, parent and parent not in self.account)
        refuse(-4, len(self.account) > 23)
        self.account[len(self.account) + 1] = {
            "unit": unit, "parent": parent, "rule": rule, "lots": [], "told": [0, 0]}
        return [len(self.account)]

    def do_tell(self, unit, over, under):
        refuse(-5, unit == 1 or unit not in self.unit)
        self.rate[unit, self.day] = (over, under)
        self.rates += 1
        return []

    def do_wait(self, days):
        refuse(-13, self.day + days > 3999)
        self.day += days
        return [self.day]

    def misfit(self, account, n, t, h):
        unit = self.account[account]["unit"]
        if n == 0:
            return True
        if unit == 1:
            return not n == t == h
        return sign(t) == -sign(n) or sign(h) == -sign(n) or (self.unit[unit] == unit and t != n)

    # A line is its account, how many, there, at home, and its gain.
    def put(self, kind, reference, lines):
        self.entry[len(self.entry) + 1] = {"day": self.day, "kind": kind, "to": reference, "lines": lines}
        return len(self.entry)

    def do_post(self, lines, kind=0, reference=0):
        refuse(-6, any(line[0] not in self.account for line in lines))
        refuse(-7, any(self.misfit(*line) for line in lines))
        refuse(-8, sum(line[3] for line in lines))
        refuse(-4, len(self.entry) > 149)
        dealt = [(a, n, t, h) + self.deal(self.account[a], n, t, h) for a, n, t, h in lines]
        gain = [sum(line[4] for line in dealt), sum(line[5] for line in dealt)]
        self.done = [self.done[0] + gain[0], self.done[1] + gain[1]]
        return [self.put(kind, reference, dealt)] + gain

    def total(self, account):
        return sum(lot[0] for lot in account["lots"])

    # Picks the next lot anew each time, and takes it, or a part of it, away.
    def take(self, account, many):
        held = account["lots"]
        if account["rule"] == 4:
            held[:] = [[sum(lot[k] for lot in held) for k in range(3)]]
        taken = []
        while many:
            pick = {0: lambda k: k, 1: lambda k: -k, 4: lambda k: k,
                    2: lambda k: (-Fraction(held[k][2], held[k][0]), k),
                    3: lambda k: (Fraction(held[k][2], held[k][0]), k)}[account["rule"]]
            place = min(range(len(held)), key=pick)
            n, t, h = held[place]
            if abs(n) <= abs(many):
                taken.append(held.pop(place))
            else:
                cut = [many, part(t, many, n), part(h, many, n)]
                held[place] = [n - cut[0], t - cut[1], h - cut[2]]
                taken.append(cut)
            many -= taken[-1][0]
        return taken

    def deal(self, account, n, t, h):
        held = self.total(account)
        if account["unit"] == 1:
            account["lots"] = [[held + n] * 3] if held + n else []
            return 0, 0
        if held == 0 or sign(held) == sign(n):
            account["lots"].append([n, t, h])
            return 0, 0
        used = sign(n) * min(abs(n), abs(held))
        used_t, used_h = part(t, used, n), part(h, used, n)
        price = gain = before = 0
        for many, cost_t, cost_h in self.take(account, -used):
            behind = before - many
            brought_t = -(part(used_t, behind, used) - part(used_t, before, used))
            brought_h = -(part(used_h, behind, used) - part(used_h, before, used))
            before = behind
            gain += brought_h - cost_h
            price += part(brought_t - cost_t, brought_h, brought_t) if brought_t else brought_h - cost_h
        if used != n:
            account["lots"].append([n - used, t - used_t, h - used_h])
        return price, gain - price

    def do_correct(self, number):
        refuse(-9, number not in self.entry)
        wrong = self.entry[number]
        refuse(-10, wrong["kind"] != 0 or any(other["to"] == number for other in self.entry.values()))
        return self.do_post([(a, -n, -t, -h) for a, n, t, h, price, rate in wrong["lines"]], 1, number)

    def do_move(self, first, second, n):
        refuse(-6, first not in self.account or second not in self.account)
        one, two = self.account[first], self.account[second]
        refuse(-7, first == second or one["unit"] != two["unit"] or one["unit"] == 1)
        held = self.total(one)
        refuse(-11, n == 0 or sign(n) != sign(held) or abs(n) > abs(held) or sign(self.total(two)) == -sign(n))
        refuse(-4, len(self.entry) > 149)
        moved = self.take(one, n)
        two["lots"].extend(moved)
        cost = [sum(lot[k] for lot in moved) for k in (1, 2)]
        lines = [(first, -n, -cost[0], -cost[1], 0, 0), (second, n, cost[0], cost[1], 0, 0)]
        return [self.put(2, 0, lines)] + cost

    # The rate's over and under, and the day on which it was told.
    def latest(self, unit, day):
        while day >= 0 and (unit, day) not in self.rate:
            day -= 1
        refuse(-12, day < 0)
        return self.rate[unit, day] + (day,)

    # Worth there and at home, and the gains not done.
    def worth(self, account, day):
        unit, lots = account["unit"], account["lots"]
        if unit == 1 or not lots:
            return [self.total(account)] * 2 + [0, 0]
        coin = self.unit[unit]
        there = self.total(account)
        if coin != unit:
            there = part(there, *self.latest(unit, day)[:2])
        rate = (1, 1) if coin == 1 else self.latest(coin, day)[:2]
        home = part(there, *rate)
        price = part(there - sum(lot[1] for lot in lots), *rate)
        return [there, home, price, home - sum(lot[2] for lot in lots) - price]

    def do_revalue(self):
        new = [self.worth(account, self.day)[2:] for account in self.account.values()]
        refuse(-4, len(self.entry) > 149)
        change = [0, 0]
        for account, told in zip(self.account.values(), new):
            change = [change[k] + told[k] - account["told"][k] for k in range(2)]
            account["told"] = told
        return [self.put(3, 0, [])] + change

    def do_close(self):
        refuse(-4, len(self.entry) > 149)
        since = [self.done[k] - self.closed[k] for k in range(2)]
        self.closed = self.done
        return [self.put(4, 0, [])] + since

    def do_balance(self, number):
        refuse(-6, number not in self.account)
        account = self.account[number]
        return [sum(lot[k] for lot in account["lots"]) for k in range(3)] + account["told"]

    def do_lots(self, number):
        refuse(-6, number not in self.account)
        held = self.account[number]["lots"]
        return [len(held)] + [number for lot in held for number in lot]

    def do_worth(self, number, day):
        refuse(-6, number not in self.account)
        return self.worth(self.account[number], day)

    def is_below(self, number, top):
        while number not in (0, top):
            number = self.account[number]["parent"]
        return number == top

    def do_tree(self, top):
        refuse(-6, top not in self.account)
        found = [self.account[number] for number in self.account if self.is_below(number, top)]
        return [len(found), sum(lot[2] for account in found for lot in account["lots"]),
                sum(sum(account["told"]) for account in found)]

    def do_trial(self):
        held = {unit: 0 for unit in self.unit}
        brought = {unit: 0 for unit in self.unit}
        for account in self.account.values():
            held[account["unit"]] += self.total(account)
        for entry in self.entry.values():
            for line in entry["lines"]:
                brought[self.account[line[0]]["unit"]] -= line[1] if entry["kind"] < 2 else 0
        cost = sum(lot[2] for account in self.account.values() for lot in account["lots"])
        return [number for unit in self.unit for number in (held[unit], brought[unit])] + [cost] + self.done

    def do_info(self, number):
        refuse(-9, number not in self.entry)
        entry = self.entry[number]
        found = [entry["day"], entry["kind"], entry["to"], len(entry["lines"])]
        return found + [number for line in entry["lines"] for number in line]

    def do_known(self, number, n):
        refuse(-6, number not in self.account)
        lines = [line for k in self.entry if k <= n for line in self.entry[k]["lines"] if line[0] == number]
        return [sum(line[1] for line in lines), sum(line[3] for line in lines)]

    def do_known_on(self, number, day):
        refuse(-6, number not in self.account)
        return [sum(line[1] for entry in self.entry.values() for line in entry["lines"]
                    if line[0] == number and entry["day"] <= day)]

    def do_gains(self):
        told = [account["told"] for account in self.account.values()]
        return self.done + self.closed + [sum(gain[k] for gain in told) for k in range(2)]

    # Deals on a copy of the account.
    def do_would(self, number, n, t, h):
        refuse(-6, number not in self.account)
        refuse(-7, self.misfit(number, n, t, h))
        return list(self.deal(deepcopy(self.account[number]), n, t, h))

    def do_rate_on(self, unit, day):
        refuse(-5, unit == 1 or unit not in self.unit)
        return list(self.latest(unit, day))

    def do_unit(self, unit):
        refuse(-5, unit not in self.unit)
        return [int(self.unit[unit] != unit), self.unit[unit]]

    def do_account(self, number):
        refuse(-6, number not in self.account)
        return [self.account[number][name] for name in ("unit", "parent", "rule")]

    def do_state(self):
        return [self.day, len(self.unit), self.rates, len(self.account), len(self.entry)]
