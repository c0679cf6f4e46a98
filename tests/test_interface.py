"""[4] and the section on the interface: names, arguments, and the files under which they stand."""

import importlib
import inspect
import pathlib
import unittest

import sparehop

FOLDER = pathlib.Path(sparehop.__file__).parent

# The modules in the order of the interface: a module may use those above it.
INTERFACE = {
    "errors": "",
    "forms": "is_integer(thing) is_name(thing) is_fleet(thing) is_lease(fleet,thing) is_plan(fleet,thing) "
             "are_pins(fleet,thing) are_edits(fleet,thing) is_word(fleet,thing) is_reduced(fleet,thing) "
             "is_edge(fleet,thing) are_prices(fleet,thing)",
    "fleets": "size(fleet) end_of(fleet,lease) restarts_of(fleet,service) leases_of(fleet) leases_in(fleet,stretch) "
              "stretches_of(fleet,lease) share(fleet,one,other) lease_in(fleet,service,stretch) fleet_fault(thing) "
              "checked_fleet(thing)",
    "fleettexts": "fleet_text(fleet) plan_text(fleet,plan) pins_text(fleet,pins) picture(fleet,plan) read_fleet(text) "
                  "read_plan(fleet,text) read_pins(fleet,text)",
    "plans": "machines_in(fleet,plan,stretch) spares_of(fleet,plan) machine_in(fleet,plan,service,stretch) "
             "spare_in(fleet,plan,stretch) machine_of(fleet,plan,lease)",
    "tables": "table_of(fleet,plan) table_fault(fleet,thing) is_table(fleet,thing) plan_of(fleet,thing)",
    "words": "reduced(word) joined(first,second) inverse(word) near_end(one,edge) far_end(one,edge) "
             "median_word(one,other,third) nearest(one,sides) way(one,other) tree_distance(one,other) "
             "is_on_way(one,other,edge)",
    "vertices": "vertex_in(fleet,plan,stretch) vertices_of(fleet,plan) machines_at(fleet,word) "
                "plan_by(fleet,vertices) spare_at(fleet,word)",
    "edits": "can_be_edited(fleet,plan,pins,lease) is_script(fleet,plan,pins,thing) edits_of(fleet,plan,pins) "
             "traced(fleet,plan,pins,script) takes_back(script) edited(fleet,plan,pins,lease) "
             "run(fleet,plan,pins,script)",
    "scripttexts": "script_text(script) told(fleet,plan,pins,script) read_script(fleet,text)",
    "apart": "apart(fleet,one,other,lease) distance(fleet,one,other) aparts(fleet,one,other)",
    "differences": "differences(fleet,one,other) is_difference(fleet,one,other,thing) "
                   "with_differences(fleet,plan,lot)",
    "precedence": "directly_precedes(fleet,one,other,first,second) precedes(fleet,one,other,first,second) "
                  "are_closed(fleet,one,other,thing) preceding(fleet,one,other) free_differences(fleet,one,other) "
                  "closed_with(fleet,one,other,lot) opened_with(fleet,one,other,lot)",
    "leading": "leads(fleet,pins,one,other) is_shortest(fleet,pins,one,other,thing) barring(fleet,pins,one,other) "
               "class_of(fleet,pins,plan) script_to(fleet,pins,one,other) shortened(fleet,pins,plan,script) "
               "fewest_edits(fleet,pins,one,other)",
    "prices": "price_of(prices,script) least_price(fleet,prices,one,other) edits_by_lease(script) "
              "is_cheapest_script(fleet,pins,prices,one,other,thing)",
    "between": "is_between(fleet,one,other,thing) plans_between(fleet,one,other) closed_of(fleet,one,other,plan) "
               "plan_of_closed(fleet,one,other,lot) scripts_many(fleet,one,other) "
               "number_of_script(fleet,one,other,script) script_at(fleet,one,other,number)",
    "medians": "median(fleet,one,other,third) nearest_with(fleet,one,other,leases) "
               "is_median(fleet,one,other,third,thing)",
    "rounds": "rounds_to(fleet,pins,one,other) longest_row(fleet,one,other) are_rounds(fleet,pins,one,other,thing) "
              "is_row(fleet,one,other,thing) fewest_rounds(fleet,one,other)",
    "merges": "quarrel(fleet,base,first,second) quarrels(fleet,base,one,other) also_taken_back(fleet,base,one,lot) "
              "merged(fleet,base,one,other) common(fleet,base,one,other) merged_all(fleet,base,plans) "
              "taken_back(fleet,base,one,lot) rebased(fleet,base,one,other)",
    "classes": "points(fleet,pins,plan) ways_on(fleet,pins,plan) ways_to(fleet,pins,plan) many_plans(fleet,pins,plan) "
               "machine_counts(fleet,pins,plan,lease) spare_counts(fleet,pins,plan,stretch) "
               "hop_counts(fleet,pins,plan) frozen(fleet,pins,plan)",
    "numbering": "plan_at(fleet,pins,plan,number) number_of(fleet,pins,plan,other) "
                 "number_below(fleet,pins,plan,other) all_plans(fleet,pins,plan,most)",
    "wishes": "are_wishes(fleet,thing) is_granted(fleet,plan,wish) suits(fleet,wishes,stretch,word) "
              "may_hop(wishes,number) missed(fleet,plan,wishes)",
    "heights": "toll(fleet,plan,prices,stretch,word) heights(fleet,pins,plan,wishes,prices) "
               "is_heights(fleet,pins,plan,wishes,prices,thing) cheapest(fleet,pins,plan,wishes,prices) "
               "lowest_price(fleet,pins,plan,wishes,prices) fewest_opened(fleet,pins,plan,wishes)",
    "days": "begun_pins(fleet,pins,now) leads_at(fleet,pins,one,other,now) "
            "is_timetable(fleet,pins,one,other,now,most,thing) last_stretch(fleet,pins,one,other) "
            "least_most(fleet,pins,one,other,now) due_stretches(fleet,one,other) "
            "timetable(fleet,pins,one,other,now,most)",
    "restarts": "with_restart(fleet,number,service) without_restart(fleet,number) plan_with(plan,number) "
                "plan_without(plan,number) lease_with(fleet,number,service,lease) lease_without(fleet,number,lease) "
                "pins_with(fleet,pins,number,service) pins_without(fleet,pins,number)",
    "house": "House(fleet,plan,pins)",
    "logs": "whole_lines(text) reopened(fleet,plan,pins,text)",
    "desk": "Desk(fleet_text,plan_text)",
}

METHODS = {
    "house": "fleet() plan() pins() held() now() version() spare() machines() plan_of(version) edit(lease) lead(plan) "
             "propose(version,plan) take_back(version) grant(wishes,prices) pin(lease) unpin(lease) pass_restart() "
             "log() twin()",
    "desk": "execute(line) house()",
}


class Interface(unittest.TestCase):

    def test_names_and_arguments(self):
        for file, told in INTERFACE.items():
            module = importlib.import_module(f"sparehop.{file}")
            for entry in told.split():
                name, arguments = entry[:-1].split("(")
                function = getattr(module, name)
                self.assertEqual(function.__module__, module.__name__)
                self.assertEqual(list(inspect.signature(function).parameters), arguments.split(","))

    def test_methods(self):
        for file, kind in (("house", "House"), ("desk", "Desk")):
            owner = getattr(importlib.import_module(f"sparehop.{file}"), kind)
            for entry in METHODS[file].split():
                name, arguments = entry[:-1].split("(")
                told = list(inspect.signature(vars(owner)[name]).parameters)
                self.assertEqual(told, ["self", *filter(None, arguments.split(","))])
        self.assertIn("__eq__", vars(importlib.import_module("sparehop.house").House))

    def test_the_files_of_the_package(self):
        files = {path.name for path in FOLDER.iterdir() if path.name != "__pycache__"}
        self.assertEqual(files, {"__init__.py", *(f"{name}.py" for name in INTERFACE)})
        self.assertEqual((FOLDER / "__init__.py").read_bytes(), b"")

    def test_a_module_uses_only_those_above_it(self):
        above = []
        for name in INTERFACE:
            for line in (FOLDER / f"{name}.py").read_text().splitlines():
                if line.startswith(("import", "from")):
                    self.assertIn(line.split()[1], [f"sparehop.{other}" for other in above])
            above.append(name)


if __name__ == "__main__":
    unittest.main()
