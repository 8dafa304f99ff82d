import importlib
import inspect
import pathlib
import unittest

# What DOC.md lists, module by module, in the order in which they are written.
INTERFACE = {
    "errors": "TapeError Cut(which,place) Early(moment) Full() NoBody(number) NoCommand() NoFile(name) NotLetBy() NotMended() "
              "Taken(name) TooMany(most) Wrong(place)",
    "fractions": "reduced(n,d) whole(n) added(one,other) lessened(one,other) times(one,other) over(one,other) least_of(some) "
                 "greatest_of(some) sum_of(some) compared(one,other) floor_of(one) ceil_of(one) rising(some)",
    "forms": "is_integer(thing) is_fraction(thing) is_lot(thing) are_bounds(thing) is_run(bounds,thing) is_row(bounds,thing) "
             "is_led(bounds,thing) is_gapped(bounds,thing) is_ride(bounds,thing) is_telling(bounds,thing) is_hearing(thing) "
             "is_format(thing) is_body(form,thing) is_full(form,thing) is_harm(thing) lead_of(bounds)",
    "rows": "cells_of(row) distances_of(row) length_of(row) mirrored(row) rows_over(bounds,cells)",
    "rides": "cell_moments(telling) mark_moments(telling,row) told_back(telling) steady(begin,cell,many)",
    "hearings": "hearing_of(telling,row,shifts) heard_back(hearing) gives(bounds,row,telling,hearing) "
                "is_kept(inequality,telling) inequalities(bounds,row,hearing)",
    "pull": "phi(bounds,t) strain(bounds,row) pull(bounds) pull_by_rows(bounds,cells) turn(bounds) pull_row(bounds)",
    "sure": "margin(bounds) is_sure(bounds) least_cell(drift,shift,lo,most,lead) least_lead(cell,drift,shift,lo,most)",
    "slips": "heard_alike(bounds,run,gap) slip_of(bounds) is_slip(bounds,thing)",
    "harms": "gap_margin(bounds) least_watchful_cell(drift,shift,lo,most,lead) least_watchful_lead(cell,drift,shift,lo,most) "
             "is_watchful(bounds) is_harm_of(hearing,thing) is_mild(form,slot,hearing,thing) harmed(hearing,harm)",
    "harmpairs": "blind_of(bounds) is_blind(bounds,thing) worst_of(bounds)",
    "polygons": "polygon_of(corners) begun(bounds,low,high,longest) led_on(bounds,polygon) cut_to(polygon,low,high) "
                "longs_at(polygon,moment) moments_in(polygon) has_point(polygon,corner)",
    "tellings": "polygons_of(bounds,row,hearing) telling_for(bounds,row,hearing) do_fit(bounds,row,hearing)",
    "hearer": "Hearer(bounds) rows_that_fit(bounds,hearing) led_rows_that_fit(bounds,hearing) told_run(bounds,row,hearing)",
    "papers": "none_paper(bounds,row,hearing) all_paper(bounds,hearing) is_none_paper(bounds,row,hearing,thing) "
              "is_all_paper(bounds,hearing,thing) rows_of_paper(hearing,paper)",
    "counts": "many_bodies(bounds,data) counts_to(bounds,data) bits_of(bounds,data) is_begun(bounds,data,row) "
              "all_bodies(bounds,data)",
    "ranks": "body_at(bounds,data,number) number_of(bounds,data,body)",
    "densest": "plans_of(tape) densest(tape) best_plan(tape) bounds_of_plan(tape,plan) is_plan(tape,thing)",
    "blocks": "width_of(form) number_of_block(form,block) is_block(form,thing) block_of_number(form,number) "
              "block_of_row(form,row) full_row(form,block)",
    "blockread": "row_told(form,hearing) row_by_trying(form,hearing) noticed(form,hearing) told(form,hearing) "
                 "told_turned(form,hearing) read_slots(form,hearings)",
    "fields": "field_sum(one,other) field_less(one,other) field_product(one,other) field_inverse(one) value_of(polynomial,at) "
              "value_at(points,at) through(points)",
    "groups": "spread(form,words) is_group(form,thing) agree(form,known) restored(form,known) twin_groups(form,known) "
              "parts_of(form,text) signs_in(form) text_of(form,parts)",
    "reels": "is_beginning(form,thing) marks_in(beginning) way_between(one,other) stages_between(one,other) Deck(form,many)",
    "heads": "calm(form,beginning) calm_reel(form,reel) read_back(form,heard) lost_places(form,reel,heard) "
             "false_places(form,reel,heard)",
    "deeds": "is_deed(thing) is_files(thing) led(files,deed) all_led(deeds) line_of(deed) deed_of(line) "
             "blocks_of(form,epoch,number,deed) slots_for(form,deed)",
    "epochs": "is_let_by(form) read_epoch(form,epoch,reel_told) opened(form,told) mends(form,told) due_reels(form,many,state)",
    "archive": "Archive(deck,heard)",
    "nights": "is_night(form,reel,thing) is_mild_night(form,reel,night) even_night(form,reel) swayed_night(form,reel,high,by) "
              "swayed(bounds,cells,high,by)",
    "heard": "heard_slot(slot,one) heard_reel(reel,night) heard_reel_back(reel,night) rows_told(form,reel,night) "
             "whole_slots(form,reel,night) fits_none(form,slot,one)",
    "desk": "Desk(form,many)",
}


# The methods that DOC.md lists for classes, each to be defined in the class itself.
METHODS = {
    "hearer": {"Hearer": "hear(moment) state() row() heard() twin()"},
    "reels": {"Deck": "form() many() reel(which) steps() fuse() set_fuse(fuse) write(which,place,row) clear(which,place) twin()"},
    "archive": {"Archive": "epoch() deeds() files() room() deck() is_mended() is_cut() set_fuse(fuse) twin() mend() put(name,text) "
                           "strike(name) rename(name,new)"},
    "desk": {"Desk": "execute(line) archive() deck() twin()"},
}


class TestInterface(unittest.TestCase):
    """The names and arguments that DOC.md lists, each defined in the very file under which it stands."""

    def test_names_and_arguments(self):
        for module, listed in INTERFACE.items():
            there = importlib.import_module(f"flutterheld.{module}")
            for entry in listed.split():
                name, _, arguments = entry.rstrip(")").partition("(")
                thing = getattr(there, name)
                self.assertEqual(thing.__module__, f"flutterheld.{module}", name)
                told = thing.__init__ if inspect.isclass(thing) and arguments else thing
                if arguments:
                    found = [parameter for parameter in inspect.signature(told).parameters if parameter != "self"]
                    self.assertEqual(found, arguments.split(","), name)

    def test_methods(self):
        for module, classes in METHODS.items():
            for name, listed in classes.items():
                defined = vars(getattr(importlib.import_module(f"flutterheld.{module}"), name))
                for entry in listed.split():
                    method, _, arguments = entry.rstrip(")").partition("(")
                    self.assertIn(method, defined)
                    self.assertEqual(list(inspect.signature(defined[method]).parameters), ["self"] + arguments.split(",") * bool(arguments))

    def test_every_module_is_listed(self):
        there = {path.stem for path in pathlib.Path(importlib.import_module("flutterheld").__file__).parent.glob("*.py")}
        self.assertEqual(there - {"__init__"}, set(INTERFACE))

    def test_each_module_imports_only_those_ahead_of_it(self):
        order = list(INTERFACE)
        for at, module in enumerate(order):
            there = importlib.import_module(f"flutterheld.{module}")
            used = {thing.__module__ for thing in vars(there).values() if inspect.isfunction(thing) or inspect.isclass(thing)}
            self.assertLessEqual(used, {f"flutterheld.{ahead}" for ahead in order[:at + 1]}, module)


if __name__ == "__main__":
    unittest.main()
