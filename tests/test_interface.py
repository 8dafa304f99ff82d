import importlib
import inspect
import unittest

# What DOC.md lists, module by module, in the order in which they are written.
INTERFACE = {
    "errors": "TapeError Cut(which,place) Early(moment) Full() NoBody(number) NoCommand() NoFile(name) NotLetBy() NotMended() "
              "Taken(name) TooMany(most) Wrong(place)",
    "fractions": "reduced(n,d) whole(n) added(one,other) lessened(one,other) times(one,other) over(one,other) least_of(some) "
                 "greatest_of(some) sum_of(some) compared(one,other) floor_of(one) ceil_of(one) rising(some)",
    "forms": "is_integer(thing) is_fraction(thing) is_lot(thing) are_bounds(thing) is_run(bounds,thing) is_row(bounds,thing) "
             "is_led(bounds,thing) is_gapped(bounds,thing) is_ride(bounds,thing) is_telling(bounds,thing) is_hearing(thing) "
             "is_format(thing) is_body(form,thing) is_full(form,thing) is_harm(thing) lead_of(bounds)",
    "rows": "cells_of(row) distances_of(row) length_of(row) mirrored(row) rows_over(bounds,cells)",
    "rides": "cell_moments(telling) mark_moments(telling,row) told_back(telling) steady(begin,cell,many)",
    "hearings": "hearing_of(telling,row,shifts) heard_back(hearing) gives(bounds,row,telling,hearing) "
                "is_kept(inequality,telling) inequalities(bounds,row,hearing)",
    "pull": "phi(bounds,t) strain(bounds,row) pull(bounds) pull_by_rows(bounds,cells) turn(bounds) pull_row(bounds)",
    "sure": "margin(bounds) is_sure(bounds) least_cell(drift,shift,lo,most,lead) least_lead(cell,drift,shift,lo,most)",
    "slips": "heard_alike(bounds,run,gap) slip_of(bounds) is_slip(bounds,thing)",
    "harms": "gap_margin(bounds) least_watchful_cell(drift,shift,lo,most,lead) least_watchful_lead(cell,drift,shift,lo,most) "
             "is_watchful(bounds) is_harm_of(hearing,thing) is_mild(form,slot,hearing,thing) harmed(hearing,harm)",
}


class TestInterface(unittest.TestCase):
    """The names and arguments that DOC.md lists, each defined in the very file under which it stands."""

    def test_names_and_arguments(self):
        for module, listed in INTERFACE.items():
            there = importlib.import_module(f"flutterheld.{module}")
            for entry in listed.split():
                name, _, arguments = entry.rstrip(")").partition("(")
                thing = getattr(there, name)
                self.assertEqual(thing.__module__, f"flutterheld.{module}", name)
                told = thing.__init__ if inspect.isclass(thing) and arguments else thing
                if arguments:
                    found = [parameter for parameter in inspect.signature(told).parameters if parameter != "self"]
                    self.assertEqual(found, arguments.split(","), name)

    def test_each_module_imports_only_those_ahead_of_it(self):
        order = list(INTERFACE)
        for at, module in enumerate(order):
            there = importlib.import_module(f"flutterheld.{module}")
            used = {thing.__module__ for thing in vars(there).values() if inspect.isfunction(thing) or inspect.isclass(thing)}
            self.assertLessEqual(used, {f"flutterheld.{ahead}" for ahead in order[:at + 1]}, module)


if __name__ == "__main__":
    unittest.main()
