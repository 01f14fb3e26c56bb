"""Which functions, classes and methods of the document stand in which file."""

INTERFACE = {
    "fallorflow.errors": (
        "FlowError InvalidForm InvalidRows InvalidSystem InvalidKeep InvalidChoice InvalidClaim InvalidText InvalidOperation "
        "ParseError InvalidNumber UnknownName NothingToUndo TooMany Refused").split(),
    "fallorflow.base.forms": (
        "MOST_UNKNOWNS MOST_ROWS is_form are_rows value_at lowest plus times opposite put_in moved form_text").split(),
    "fallorflow.lots.rows": (
        "MOST_SIGNED point_or_bar follows least bare is_bare is_point is_bar is_sum is_fall solved best is_solution is_clash").split(),
    "fallorflow.rules.system": (
        "MAX_FUNCTIONS MAX_RULES MAX_PARAMETERS MAX_UNKNOWNS MAX_CALLS MAX_GUARD MAX_COST MAX_FACTOR MAX_KEPT system_fault System "
        "System.__init__ System.functions System.rules System.start_rows System.__eq__ System.__str__ edges source goal arguments "
        "parts reached is_keep empty_keep rows_ahead edge_rows").split(),
    "fallorflow.rules.made": "without permuted beside".split(),
    "fallorflow.rules.machine": (
        "MOST_CHOICES MAX_STRETCH MAX_DEEP Standing Standing.__init__ Standing.system Standing.call Standing.pile Standing.cost "
        "Standing.steps Standing.result Standing.after Standing.__eq__ Standing.__str__ run is_run each_run entered ended tally").split(),
    "fallorflow.texts.programs": "is_program".split(),
    "fallorflow.texts.spoken": "spoken".split(),
    "fallorflow.texts.lead": "system_of full_inputs choices_of outside_of".split(),
    "fallorflow.texts.short": "can_cut cut short".split(),
    "fallorflow.texts.speech": "program_text read_program".split(),
    "fallorflow.hold.keeps": (
        "MOST_DUTIES duties duty_parts inductive is_inductive_paper events first_break is_within greatest is_greatest_paper "
        "united usual").split(),
    "fallorflow.hold.closed": (
        "rule_opens edge_opens is_rule_opening is_edge_opening open_edges met cut settled").split(),
    "fallorflow.fall.ranks": (
        "MOST_ROWS rank_or_balance is_rank is_balance falling narrowed ranks_added most_times").split(),
    "fallorflow.fall.trees": "tree_or_stay is_tree is_stay left_over rounds measure".split(),
    "fallorflow.bills.bills": (
        "MOST_EQUATIONS items_of item_rows due billed is_bill is_crop allowed spent").split(),
    "fallorflow.bills.least": (
        "least_bill is_least_bill worth lot_items shared is_shared is_split visits").split(),
    "fallorflow.bounds.polys": (
        "MAX_TERMS MAX_EXPONENT is_poly poly_sum poly_product poly_join poly_at does_cover").split(),
    "fallorflow.bounds.bounds": "MOST_ROUNDS sizing is_sizing bound is_refusal steps_at_most".split(),
    "fallorflow.ever.rings": (
        "MOST_LINKS MOST_ROUNDS MOST_PICK is_ring round_of shift_of rounds_from first_break ever_or_break is_ever ever_choices").split(),
    "fallorflow.ever.counters": (
        "MOST_WALK MOST_MOVES are_counters moves turns_or_shelves is_turns is_shelf_tree walk_of need_of walk_ring").split(),
    "fallorflow.exact.costs": "MOST_CALLS MOST_STRETCH entered_calls exact_cost is_table is_round".split(),
    "fallorflow.check.checker": "kinds is_claim opposite takes".split(),
    "fallorflow.check.answers": "MOST_LINKS MOST_RINGS ending costing bounding priced gone_round survey".split(),
    "fallorflow.house.edits": "tightened loosened led_on".split(),
    "fallorflow.house.report": "broken_at watch_text".split(),
    "fallorflow.house.bench": (
        "MOST_NOTES MOST_CALLS Bench Bench.__init__ Bench.system Bench.notes Bench.standing Bench.calls Bench.note Bench.tighten "
        "Bench.loosen Bench.put Bench.watch Bench.undo Bench.twin Bench.__len__ Bench.__eq__ Bench.__str__").split(),
}
