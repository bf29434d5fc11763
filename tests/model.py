"""The document's calls 0 to 12 told once more, slowly and by fractions, to hold the program against."""

from fractions import Fraction

RANGES = {
    0: [], 1: [], 2: [(1, 10)], 3: [(1, 10), (0, 24), (0, 4)], 4: [(1, 10), (1, 10 ** 6), (1, 10 ** 6)],
    6: [(1, 150)], 7: [(1, 24), (1, 24), (-10 ** 9, 10 ** 9)], 8: [], 9: [], 10: [(1, 1000)],
    11: [(1, 24)], 12: [(1, 24)],
}


class Refused(Exception):
    pass


def refuse(number, due):
    if due:
        raise Refused(number)


def nearest(exact):
    whole = int(abs(exact) + Fraction(1, 2))
    return whole if exact >= 0 else -whole


def part(x, n, d):
    return nearest(Fraction(x * n, d)) if d else 0


def sign(x):
    return (x > 0) - (x < 0)


class Model:
    def __init__(self):
        self.unit = None
        self.day = 0
        self.rate = {}
        self.account = {}
        self.entry = {}
        self.done = [0, 0]
        self.closed = [0, 0]

    def ask(self, call):
        try:
            return [0] + self.do(call)
        except Refused as refused:
            return [refused.args[0]]

    def do(self, call):
        number, rest = call[0], call[1:]
        if number == 5:
            rest = rest[1:]
            refuse(-1, len(rest) not in (4, 8, 12, 16, 20, 24))
            refuse(-1, any(not 1 <= a <= 24 for a in rest[::4]))
            refuse(-1, any(abs(x) > 10 ** 9 for k, x in enumerate(rest) if k % 4))
            lines = list(zip(rest[::4], rest[1::4], rest[2::4], rest[3::4]))
            rest = [lines]
        else:
            refuse(-1, any(not low <= x <= high for x, (low, high) in zip(rest, RANGES[number])))
        refuse(-2, number != 0 and self.unit is None)
        names = ["start", "coin", "thing", "new", "tell", "post", "correct", "move", "revalue", "close", "wait",
                 "balance", "lots"]
        return getattr(self, "do_" + names[number])(*rest)

    def do_start(self):
        refuse(-3, self.unit is not None)
        self.unit = {1: 1}
        return []

    def do_coin(self):
        refuse(-4, len(self.unit) > 9)
        number = len(self.unit) + 1
        self.unit[number] = number
        return [number]

    def do_thing(self, coin):
        refuse(-5, self.unit.get(coin) != coin)
        refuse(-4, len(self.unit) > 9)
        self.unit[len(self.unit) + 1] = coin
        return [len(self.unit)]

    def do_new(self, unit, parent, rule):
        refuse(-5, unit not in self.unit)
        refuse(-6, parent and parent not in self.account)
        refuse(-4, len(self.account) > 23)
        self.account[len(self.account) + 1] = {"unit": unit, "rule": rule, "lots": [], "told": [0, 0]}
        return [len(self.account)]

    def do_tell(self, unit, over, under):
        refuse(-5, unit == 1 or unit not in self.unit)
        self.rate[unit, self.day] = (over, under)
        return []

    def do_wait(self, days):
        refuse(-13, self.day + days > 3999)
        self.day += days
        return [self.day]

    def misfit(self, account, n, t, h):
        unit = self.account[account]["unit"]
        if n == 0:
            return True
        if unit == 1:
            return not n == t == h
        return sign(t) == -sign(n) or sign(h) == -sign(n) or (self.unit[unit] == unit and t != n)

    def put(self, kind, reference, lines):
        self.entry[len(self.entry) + 1] = (kind, reference, lines)
        return len(self.entry)

    def do_post(self, lines, kind=0, reference=0):
        refuse(-6, any(line[0] not in self.account for line in lines))
        refuse(-7, any(self.misfit(*line) for line in lines))
        refuse(-8, sum(line[3] for line in lines))
        refuse(-4, len(self.entry) > 149)
        gain = [0, 0]
        for account, n, t, h in lines:
            price, rate = self.deal(self.account[account], n, t, h)
            gain = [gain[0] + price, gain[1] + rate]
        self.done = [self.done[0] + gain[0], self.done[1] + gain[1]]
        return [self.put(kind, reference, lines)] + gain

    def total(self, account):
        return sum(lot[0] for lot in account["lots"])

    # Picks the next lot anew each time, and takes it, or a part of it, away.
    def take(self, account, many):
        held = account["lots"]
        if account["rule"] == 4:
            held[:] = [[sum(lot[k] for lot in held) for k in range(3)]]
        taken = []
        while many:
            pick = {0: lambda k: k, 1: lambda k: -k, 4: lambda k: k,
                    2: lambda k: (-Fraction(held[k][2], held[k][0]), k),
                    3: lambda k: (Fraction(held[k][2], held[k][0]), k)}[account["rule"]]
            place = min(range(len(held)), key=pick)
            n, t, h = held[place]
            if abs(n) <= abs(many):
                taken.append(held.pop(place))
            else:
                cut = [many, part(t, many, n), part(h, many, n)]
                held[place] = [n - cut[0], t - cut[1], h - cut[2]]
                taken.append(cut)
            many -= taken[-1][0]
        return taken

    def deal(self, account, n, t, h):
        held = self.total(account)
        if account["unit"] == 1:
            account["lots"] = [[held + n] * 3] if held + n else []
            return 0, 0
        if held == 0 or sign(held) == sign(n):
            account["lots"].append([n, t, h])
            return 0, 0
        used = sign(n) * min(abs(n), abs(held))
        used_t, used_h = part(t, used, n), part(h, used, n)
        price = gain = before = 0
        for many, cost_t, cost_h in self.take(account, -used):
            behind = before - many
            brought_t = -(part(used_t, behind, used) - part(used_t, before, used))
            brought_h = -(part(used_h, behind, used) - part(used_h, before, used))
            before = behind
            gain += brought_h - cost_h
            price += part(brought_t - cost_t, brought_h, brought_t) if brought_t else brought_h - cost_h
        if used != n:
            account["lots"].append([n - used, t - used_t, h - used_h])
        return price, gain - price

    def do_correct(self, number):
        refuse(-9, number not in self.entry)
        kind, reference, lines = self.entry[number]
        refuse(-10, kind != 0 or any(other[1] == number for other in self.entry.values()))
        return self.do_post([(a, -n, -t, -h) for a, n, t, h in lines], 1, number)

    def do_move(self, first, second, n):
        refuse(-6, first not in self.account or second not in self.account)
        one, two = self.account[first], self.account[second]
        refuse(-7, first == second or one["unit"] != two["unit"] or one["unit"] == 1)
        held = self.total(one)
        refuse(-11, n == 0 or sign(n) != sign(held) or abs(n) > abs(held) or sign(self.total(two)) == -sign(n))
        refuse(-4, len(self.entry) > 149)
        moved = self.take(one, n)
        two["lots"].extend(moved)
        return [self.put(2, 0, []), sum(lot[1] for lot in moved), sum(lot[2] for lot in moved)]

    def latest(self, unit):
        if unit == 1:
            return 1, 1
        days = [day for told, day in self.rate if told == unit and day <= self.day]
        refuse(-12, not days)
        return self.rate[unit, max(days)]

    def not_done(self, account):
        unit = account["unit"]
        if unit == 1 or not account["lots"]:
            return [0, 0]
        there = self.total(account)
        if self.unit[unit] != unit:
            there = part(there, *self.latest(unit))
        rate = self.latest(self.unit[unit])
        gain = part(there, *rate) - sum(lot[2] for lot in account["lots"])
        price = part(there - sum(lot[1] for lot in account["lots"]), *rate)
        return [price, gain - price]

    def do_revalue(self):
        new = [self.not_done(account) for account in self.account.values()]
        refuse(-4, len(self.entry) > 149)
        change = [0, 0]
        for account, told in zip(self.account.values(), new):
            change = [change[k] + told[k] - account["told"][k] for k in range(2)]
            account["told"] = told
        return [self.put(3, 0, [])] + change

    def do_close(self):
        refuse(-4, len(self.entry) > 149)
        since = [self.done[k] - self.closed[k] for k in range(2)]
        self.closed = self.done
        return [self.put(4, 0, [])] + since

    def do_balance(self, number):
        refuse(-6, number not in self.account)
        account = self.account[number]
        return [sum(lot[k] for lot in account["lots"]) for k in range(3)] + account["told"]

    def do_lots(self, number):
        refuse(-6, number not in self.account)
        held = self.account[number]["lots"]
        return [len(held)] + [number for lot in held for number in lot]
