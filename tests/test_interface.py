"""Names, arguments and homes of all that the interface lists."""

import importlib
import inspect
import pathlib
import unittest

INTERFACE = {
    "points": "is_fraction(value) is_point(value) is_direction(value) plus(point,other) minus(point,other) "
              "times(point,fraction) between(point,other,fraction) inner(point,other) cross(point,other) quarter(point) "
              "sense(point,other,third)",
    "sections": "is_section(value) is_polygon(value) polygon_of(points) section_of(points) area_of(polygon) "
                "middle_of(section) holds(polygon,point) is_inside(section,point) moved(section,way) turned(section) "
                "mirrored(section) grown(section,fraction) is_rim_point(section,value) on_rim(section,rim) "
                "rim_of(section,point)",
    "cuts": "height_of(up,point) heights(section,up) line_at(section,up,height) line_through(section,up,point) "
            "area_below(section,up,height) is_stand(section,value) ends_of(section,stand) up_of(section,stand) "
            "area_of_stand(section,stand) wet_part(section,stand) dry_part(section,stand) wet_corners(section,stand)",
    "stands": "stand_from(section,area,left) stand_to(section,area,right) corner_stands(section,area) "
              "pieces(section,area) piece_of(section,area,left) right_share(section,area,index) "
              "is_on_arc(section,arc,left) stretches(section,area,arc)",
    "levers": "middle_below(section,stand) lever(section,ballast,stand) word_at(section,ballast,stand) "
              "rise(section,ballast,stand) compare(section,ballast,stand,other)",
    "metacentres": "metacentre(section,stand) firmness(section,ballast,stand) ballast_line(section,stand) "
                   "ballast_for(section,stand,fraction)",
    "rows": "is_row(value) row_of(numbers) worth(row,at) row_sum(row,other) row_product(row,other) growth(row) "
            "shortest(row) remainder(row,other) common_factor(row,other) sturm_row(row) how_many(row,low,high) "
            "root_near(row,low,high,index,many) sign_tale(row,low,high) is_above(row,low,high)",
    "righting": "righting_row(log,index) righting_tale(log)",
    "rests": "rests(log) near(log,index,many) rest_at(log,stand) kind_of(log,stand) comes_to(log,stand) "
             "has_one_pose(log) hold(log,index)",
    "heels": "corner_signs(section,area,up) heel_piece(section,area,up) stand_at(section,area,up) "
             "share_near(section,area,up,many) heel_word(log,up) heel_between(log,up) heel_comes_to(log,up)",
    "lots": "words_at(section,stand,lot) words_on(section,area,lot,arc) turned_at(section,area,lot,arc,word) "
            "is_trap(section,area,lot,arc) can_turn(section,area,lot,arc,word) resting_part(section,stand,lot) "
            "low_part(section,stand,lot) meets_metacentres(section,area,lot,arc) firm_for_all(section,area,lot)",
    "draughts": "turning_profile(section,up,ballast) firmness_profile(section,up,ballast) "
                "loading_profile(section,up,height,ballast,place) profile_sign(profile,height) profile_tale(profile) "
                "change_near(profile,index,many) is_always_level(section,up,ballast) words_at_up(section,up,lot) "
                "turned_height(section,up,lot,word)",
    "drypoints": "wetness(section,stand,point) wet_words(section,area,point,arc) wet_tale(section,area,point,arc) "
                 "wet_change(section,area,point,arc,index,many) stand_with(section,area,point,arc,word) "
                 "least_below(section,point) greatest_below(section,point) is_vented(section,area,points,arc)",
    "loads": "loaded(log,weight,place) shifted(log,weight,place,other) lot_loaded(log,weight,deck) "
             "balancing_part(log,stand,deck) flooded(log,stand) floor_word(section,ballast,edge) rolls(section,ballast,edge) "
             "firm_edges(section,ballast)",
    "notes": "is_note(section,value) keeps(section,ballast,note) fitting_part(section,lot,notes) "
             "fitting_ballast(section,lot,notes) at_odds(section,lot,notes) status_of(section,lot,notes,note) "
             "words_left(section,lot,notes,stand) needless_notes(section,lot,notes) kept_notes(section,lot,notes) "
             "tells_all(section,lot,notes,others)",
    "checker": "accepts(claim,paper)",
    "certificates": "certify_turning(log,arc,word) certify_pose(log) certify_rests(log) "
                    "certify_wetness(section,area,point,arc,word) certify_trap(section,area,lot,arc) "
                    "certify_level(section,up,ballast) certify_notes(section,lot,notes)",
}
CLASSES = {
    ("workshops", "Workshop"): "__init__(self) put(self,name,log) drop(self,name) wish(self,wish) lift(self,index) "
                               "named(self,name) undo(self) trial(self) tried(self,action) __len__(self)",
    ("consoles", "Console"): "__init__(self,shop) say(self,line)",
}


class InterfaceTest(unittest.TestCase):
    def test_functions(self):
        for home, told in INTERFACE.items():
            module = importlib.import_module("hullrests." + home)
            for each in told.split():
                with self.subTest(home, function=each):
                    name, arguments = each.rstrip(")").split("(")
                    function = getattr(module, name)
                    self.assertEqual(module.__name__, function.__module__)
                    self.assertEqual(arguments.split(","), list(inspect.signature(function).parameters))
                    self.assertTrue(all(each.kind is each.POSITIONAL_OR_KEYWORD and each.default is each.empty
                                        for each in inspect.signature(function).parameters.values()))

    def test_classes(self):
        for (home, name), told in CLASSES.items():
            module = importlib.import_module("hullrests." + home)
            found = getattr(module, name)
            self.assertEqual((module.__name__, (object,)), (found.__module__, found.__bases__))
            for each in told.split():
                with self.subTest(name, method=each):
                    method, arguments = each.rstrip(")").split("(")
                    # Each one stands in the class itself.
                    parameters = list(inspect.signature(vars(found)[method]).parameters)
                    self.assertEqual(arguments.split(","), parameters)
        workshop = importlib.import_module("hullrests.workshops").Workshop
        for name in ("names", "wishes"):
            self.assertIsInstance(vars(workshop)[name], property)
        self.assertIn("__contains__", vars(workshop))

    def test_homes(self):
        package = pathlib.Path(importlib.import_module("hullrests").__file__).parent
        homes = set(INTERFACE) | {home for home, name in CLASSES} | {"errors"}
        self.assertEqual(20, len(homes))
        self.assertLessEqual(homes, {path.stem for path in package.glob("*.py")})


if __name__ == "__main__":
    unittest.main()
