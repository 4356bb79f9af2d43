"""The names of the interface: where they are defined, how their parameters are called."""

import importlib
import inspect
import re
import unittest

FUNCTIONS = {
    "ratios": """ratio_by(top, bottom=1) is_ratio(value) ratio_order(one, other) ratio_plus(one, other)
        ratio_minus(one, other) ratio_times(one, other) ratio_over(one, other) middle_ratio(one, other)
        ratio_text(one) read_ratio(text) simplest_ratio(low=None, high=None)""",
    "wishes": """wish_rings(bell, times=1) wish_ahead(one, other) wish_last(bell) wish_denied(wish) wish_met(wish)
        wish_both(one, other) wish_either(one, other) least_wish(wish, bells) same_wish(one, other, bells)""",
    "curves": """curve_of(values) is_curve(value) curve_plus(f, g) curve_scaled(f, n) curve_minus(f, g)
        curve_times(f, g) curve_slope(f) curve_moved(f, n) curve_after(f, g) curve_worth(f, one) curve_sign(f, one)
        first_sign(f) last_sign(f) curve_text(f) read_curve(text)""",
    "stairs": "stair_names(stair) is_timeless(stair) stair_depth(stair) tidy_stair(stair)",
    "cuts": """primitive_curve(f) common_curve(f, g) quotient_curve(f, g) plain_curve(f) curve_parts(f)
        sign_changes(f, low, high) cuts_of(f, low=None, high=None) cuts_hold(f, low, high, value)
        cut_count(f, low, high, cuts) count_zeros(f, low=None, high=None)""",
    "halls": """thing_number(hall, name) bell_number(hall, name) way_number(hall, thing, way)
        followed_curves(hall, ways) faces_of(hall, ways, number) hums_of(hall, ways) mode_fits(mode, ahead, behind)
        joined_halls(one, other) with_bells(hall, bells) rewound_hall(hall, clock) scaled_hall(hall, a, b)""",
    "places": """need_place(value) is_place(value) places_of(f) moments_of(f) ratio_place(one) place_order(one, other)
        ratio_against(place, one) place_sign(f, place) place_sides(f, place) zero_times(f, place) place_in(f, place)
        whole_times(place, n=1) ratio_of(place) place_moved(place, n) simplest_between(one=None, other=None)
        gathered_places(places)""",
    "branches": """hum_worth(handle, f) worth_at(handle, f, moment) graph_limits(handle, f) graph_turns(handle, f)
        graph_branches(handle, f) face_modes(handle, f, worth)""",
    "papers": """seat_of(place, n=1) seat_holds(place, value) place_paper(one, other)
        place_paper_holds(one, other, value) sign_paper(f, place) sign_paper_holds(f, place, value)""",
    "tables": """sign_row(table, number) zero_cells(table, number) inner_place(table, cell) time_cell(table, time)
        joined_tables(one, other) only_curves(table, numbers) laid_cells(fine, coarse) turned_curve(curve, degree)
        table_paper(curves) table_holds(curves, value)""",
    "told": "told_fault(rows) told_curves(rows) least_degree(row)",
    "knots": """contact_of(one, other, place) knot_of(curves, place) knot_ahead(tree) knot_there(tree) knot_behind(tree)
        replayed_orders(first, trees) forbidden_four(order) can_come(order) turn_tree(order) turn_degree(order)
        turn_curves(order, time)""",
    "orders": """thing_orders(hall, ways) first_order(curves) last_order(curves) crossings_of(curves, i, j)
        leaders_of(orders) turns_between(lots, i, j)""",
    "rows": """hall_table(hall, ways) bell_signs(hall, ways) ring_row(hall, ways) next_ring(hall, ways, time)
        last_ring(hall, ways, time) tale_of(row) thin_row(row, names) thin_tale(tale, names) merged_rows(row, other)
        events_of(tale) event_lot(tale, name, i) begins_with(tale, other)""",
    "spans": """is_spans(value) spans_both(one, other) spans_either(one, other) spans_without(one) until_of(one, other)
        since_of(one, other) soon_of(one, n) lately_of(one, n) in_spans(one, time) same_spans(one, other)""",
    "sayings": """truth_of(band, stair) holds_at(band, stair, time) first_time(band, stair) last_time(band, stair)
        same_truth(band, one, other) labels_of(band, stair) labels_hold(band, stair, value) ever_holds(band, stair)""",
    "silent": """is_lot(value) is_tale(value) stuck_at(lots, heard) first_laying(lots, heard) last_laying(lots, heard)
        may_lie(lots, heard) count_layings(lots, heard) silent_for_sure(lots, heard) heard_for_sure(lots, heard)
        heard_tales(lots) alike_silences(lots, one, other) blame_worths(lots, heard, missing, extra)
        least_blame(lots, heard, missing, extra) worths_hold(lots, heard, missing, extra, price, value)""",
    "sweeps": "simplest_in(part)",
    "turners": """game_first(game, wish) game_moves(game, wish, standing) game_standings(game, wish)
        game_play(game, wish, run) game_turns(game, wish, run) sure_plan(game, wish, group, by=None)
        plan_holds(game, wish, group, value, *, by=None, against=False) good_choices(game, wish, group)
        soonest_end(game, wish, group) least_groups(game, wish)""",
    "blind": """first_nodes(game, wish, hand, heard) next_nodes(game, wish, hand, heard, node, choice)
        blind_sure(game, wish, hand, heard) blind_holds(game, wish, hand, heard, value)
        blind_lost(game, wish, hand, heard, value) least_heard(game, wish, hand)""",
    "parting": "kinds_of_times(band, stair) parting_stair(band, stair, one, other)",
    "rooms": """rooms_of(bands, gongs=(), calls=()) join_circle(rooms) is_circle(rooms, value) some_weave(rooms)
        broken_join(rooms, weave) is_weave(rooms, value)""",
    "runs": "run_paper(ruled) run_holds(ruled, value)",
    "stays": "stay_holds(handle, low, high, value) stay_paper(handle, low, high)",
    "threats": "kept_run(game, wishes, run) kept_ends(game, wishes)",
    "valid": "in_all_halls(stair) valid_holds(stair, value) follows_from(one, other)",
    "watchers": """house_points(houses) point_time(houses, point) heard_at(houses, watcher, point)
        heard_fits(houses, watcher, heard) is_always(houses, point, stair) doubt_of(houses, watcher, heard, stair)
        sure_points(houses, watcher, stair) knows_points(houses, watcher, some) together_know(houses, watchers, some)
        everybody_knows(houses, watchers, some) known_levels(houses, watchers, some)
        common_points(houses, watchers, some) common_chain(houses, watchers, some, point) when_known(houses, watcher)
        never_known(houses, watcher)""",
    "pools": """clashes_of(ruled) kept_orders(ruled) bound_pairs(ruled) parted_order(ruled, order) keeps_tale(ruled, lot)
        least_kept(ruled) keeping_gap(ruled) serving_rules(ruled, wish) never_tree(ruled, wish)
        tree_holds(ruled, wish, value) deafened_rules(ruled, wish, most) deaf_tree(ruled, wish, most)
        deaf_holds(ruled, wish, most, value)""",
    "stamps": """stamp_of(rooms, step) step_relation(rooms, one, other) join_road(rooms, one, other)
        is_road(rooms, one, other, value) three_weaves(rooms, one, other) kept_calls(rooms) missing_joins(rooms, weave)""",
    "starts": """start_standings(ruled) start_of(ruled, start) start_names(ruled) coming_from(ruled, lots)
        alike_hands(one, other) alike_paper(one, other) alike_holds(one, other, value) wish_comings(ruled, wish)""",
    "alike": """bells_of(tales) clock_pairs(row, other) parting_lots(one, other, *, surely=False)
        parting_index(one, other, names) alike_lots(one, other, *, surely=False)
        unparted_pairs(tales, names, *, surely=False) least_lots(tales, *, surely=False) deaf_lots(tales, *, surely=False)
        weave_apart(one, other) joins_followed(one, other)""",
    "weaves": """how_many(rooms) nth_weave(rooms, number) weave_passes(rooms, weave) number_of(rooms, weave)
        meeting_weave(rooms, told) meeting_barred(rooms, told) is_barred(rooms, told, value) passing_weave(rooms, wish)
        avoiding_weave(rooms, wish) always_passes(rooms, wish) weaves_through(rooms, wish) wish_fence(rooms, wish)
        is_fence(rooms, wish, value)""",
    "made": """own_hall(lots) heights_fault(lots) heights_order(lots) heights_turns(lots) heights_degree(lots)
        heights_hall(lots)""",
    "tones": """plain_naming(naming) is_coarser(naming, other) heard_tones(lots, bells, naming)
        unheard_pairs(tales, bells, naming) coarsest_namings(tales, bells) finest_deaf(tales, bells)
        fewest_tones(tales, bells) tones_needed(one, other) lots_matched(one, other)""",
    "checker": "sheet_holds(kind, question, value) wrong_sheets(sheets)",
}

CLASSES = {
    ("wishes", "Wish", "(states, good, steps)"): {
        "rung_bells": "(self)", "after": "(self, state, lot)", "end": "(self, tale, state=0)",
        "takes": "(self, tale)", "__eq__": "(self, other)",
    },
    ("stairs", "Stair", "(rows)"): {"__str__": "(self)", "__eq__": "(self, other)"},
    ("halls", "Hall", "(things, bells)"): {"text": "(self)"},
    ("handles", "Handle", "(hall, thing, power)"): {"hall_at": "(self, one)"},
    ("rules", "Ruled", "(hall, rules=())"): {"text": "(self)", "ordered": "(self, order)", "only": "(self, lot)"},
    ("tables", "Table", "(curves, marks=())"): {"__len__": "(self)"},
    ("courses", "Course", "(hall)"): {"row_by": "(self, ways)"},
    ("orders", "Orders", "(curves)"): {},
    ("sayings", "Band", "(hall, turns=())"): {},
    ("sweeps", "Sweep", "(handle)"): {
        "cell_of": "(self, worth)", "tale_at": "(self, worth)", "part_of": "(self, worth)",
        "parts_where": "(self, test)",
    },
    ("turners", "Game", "(hall, hands)"): {},
    ("rooms", "Rooms", "(rooms, gongs=(), calls=())"): {
        "many_lots": "(self, name)", "lot_of": "(self, step)", "step_of": "(self, name, bell, turn)",
        "with_gong": "(self, one, other)", "with_call": "(self, one, other)", "without_joins": "(self)",
        "text": "(self)", "__eq__": "(self, other)",
    },
    ("runs", "Run", "(ruled, since=None, ways=None, *, deaf=())"): {"ways_at": "(self, moment)"},
    ("live", "Live", "(hall)"): {"deed": "(self, text)", "undo": "(self)", "redo": "(self)"},
    ("desk", "Desk", "()"): {"say": "(self, command)"},
    ("books", "Book", "()"): {
        "put": "(self, sheet)", "forget": "(self, number)", "knows": "(self, kind, question)",
    },
}

ERRORS = {
    "InvalidCurve": "at", "InvalidPlace": "at", "InvalidTable": "at", "InvalidOrder": "at", "InvalidHall": "at",
    "InvalidText": "at", "InvalidSaying": "at", "InvalidSpans": "at", "InvalidRule": "at", "InvalidTurns": "at",
    "InvalidWish": "at", "InvalidGame": "at", "InvalidRooms": "at", "InvalidHeard": "at", "Refused": "at",
    "InvalidSize": "word",
}


def module_of(name):
    return importlib.import_module("curvebells." + name)


class TestInterface(unittest.TestCase):

    def test_functions(self):
        for name, text in FUNCTIONS.items():
            module = module_of(name)
            for word, parameters in re.findall(r"(\w+)(\((?:[^()]|\(\))*\))", text):
                function = getattr(module, word)
                self.assertEqual(str(inspect.signature(function)), " ".join(parameters.split()), word)
                self.assertEqual(function.__module__, "curvebells." + name)

    def test_classes(self):
        for (name, word, parameters), methods in CLASSES.items():
            made = getattr(module_of(name), word)
            self.assertEqual(made.__module__, "curvebells." + name)
            self.assertEqual(str(inspect.signature(made)), parameters)
            for method, told in methods.items():
                self.assertIn(method, vars(made))
                self.assertEqual(str(inspect.signature(vars(made)[method])), told)

    def test_read(self):
        for name, word, parameters in (("stairs", "Stair", "(text)"), ("halls", "Hall", "(text)"),
                                       ("rules", "Ruled", "(hall, text)"), ("rooms", "Rooms", "(text)")):
            made = getattr(module_of(name), word)
            self.assertIn("read", vars(made))
            self.assertEqual(str(inspect.signature(made.read)), parameters)


class TestObjects(unittest.TestCase):

    def all_objects(self):
        """An object of each class, by the name of the class."""
        made = {word: getattr(module_of(name), word) for name, word, _ in CLASSES}
        hall = made["Hall"].read("thing cat\nway run 0 1\nbell ding at cat 2 any")
        handle, ruled = made["Handle"](hall, "cat", 1), made["Ruled"](hall)
        arguments = {
            "Wish": (1, (), ()), "Stair": ([("rises", "cat")],), "Hall": (hall.things, hall.bells), "Handle": (hall, "cat", 1),
            "Ruled": (hall,), "Table": ([(0, 1)],), "Course": (hall,), "Orders": ([(0, 1)],), "Band": (hall,), "Sweep": (handle,),
            "Game": (hall, [("ann", ["cat"], [])]), "Rooms": ([("a", ())],), "Run": (ruled,), "Live": (hall,), "Desk": (),
            "Book": (),
        }
        return {word: made[word](*arguments[word]) for word in made}

    def test_not_iterable_and_without_length(self):
        for word, value in self.all_objects().items():
            with self.assertRaises(TypeError):
                iter(value)
            if word != "Table":
                with self.assertRaises(TypeError):
                    len(value)
        self.assertEqual(len(self.all_objects()["Table"]), 1)

    def test_equal_to_nothing_else(self):
        ones, others = self.all_objects(), self.all_objects()
        for word, value in ones.items():
            for name, other in others.items():
                self.assertEqual(value == other, word == name and word in ("Wish", "Stair", "Rooms"))
            for other in (None, 0, "", (), [], word):
                self.assertFalse(value == other)
                self.assertTrue(value != other)


class TestErrors(unittest.TestCase):

    def test_classes(self):
        errors = module_of("errors")
        self.assertEqual(errors.BellError.__bases__, (Exception,))
        for name in list(ERRORS) + ["InvalidCommand"]:
            self.assertEqual(getattr(errors, name).__bases__, (errors.BellError,), name)
        self.assertEqual(errors.NoName.__bases__, (KeyError,))
        for name in list(ERRORS) + ["InvalidCommand", "NoName", "BellError"]:
            self.assertEqual(getattr(errors, name).__module__, "curvebells.errors")

    def test_kept_arguments(self):
        errors = module_of("errors")
        kept = [3]
        for name, attribute in list(ERRORS.items()) + [("NoName", "name")]:
            for error in (getattr(errors, name)(kept), getattr(errors, name)(**{attribute: kept})):
                self.assertIs(getattr(error, attribute), kept)
                self.assertEqual(str(inspect.signature(getattr(errors, name))), "(" + attribute + ")")
        self.assertIsInstance(errors.InvalidCommand(), errors.BellError)

    def test_any_things_are_kept(self):
        errors = module_of("errors")
        for thing in (None, (None, 1), ("things", -1), "n", -1, {}, [[]]):
            self.assertIs(errors.InvalidHall(thing).at, thing)
            self.assertIs(errors.InvalidSize(word=thing).word, thing)
            self.assertIs(errors.NoName(thing).name, thing)

    def test_no_name_is_no_bell_error(self):
        errors = module_of("errors")
        self.assertFalse(issubclass(errors.NoName, errors.BellError))
        with self.assertRaises(KeyError):
            raise errors.NoName("cat")


if __name__ == "__main__":
    unittest.main()
