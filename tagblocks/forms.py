"""Forms: sums of names with factors. A form is a dict from names, numbers from 1 on, to factors; 0 has what is added.

A row is a form that is 0 or more; a form that is 0 is two rows. No name has the factor 0. No function changes a form
that it is given.
"""


def plain(worth):
    """The form of a number."""
    return {0: worth}


def plus(one, times, other):
    """One form and another one, times a factor."""
    total = dict(one)
    for name, factor in other.items():
        many = total.get(name, 0) + times * factor
        if many or name == 0:
            total[name] = many
        else:
            total.pop(name, None)
    return total


def shifted(form, by):
    """A form and a number."""
    return plus(form, by, {0: 1})


def negated(form):
    """The form with all signs turned."""
    return {name: -factor for name, factor in form.items()}


def put_in(form, name, worth):
    """The form with another form in the place of a name."""
    factor = form.get(name, 0)
    if factor == 0:
        return form
    rest = {one: many for one, many in form.items() if one != name}
    return plus(rest, factor, worth)


def level(form):
    """The two rows that tell that a form is 0."""
    return [form, negated(form)]
