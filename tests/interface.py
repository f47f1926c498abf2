"""The functions of the interface [25], by their files, with their parameters."""

FUNCTIONS = {
    "versions": """is_name(thing) is_version(thing) version_text(version) read_version(text) is_early(version)
        released(version) compared(one,other) first_unlike(one,other) next_version(version) version_ahead(version)
        steps_on(version,many) steps_between(one,other) next_release(version,place) newest_of(versions,early)
        from_best(versions)""",
    "ranges": """is_range(thing) range_of(pairs) in_range(span,version) just(version) from_on(version) below(version)
        compatible(version) close_to(version) both_of(one,other) either_of(one,other) all_but(span)
        taken_out(one,other) is_inside(one,other) are_apart(one,other) parting_version(one,other)
        range_cuts(spans) range_grains(spans) by_rows(spans,rows) least_in(span) newest_in(span)
        next_in(span,version) least_release_in(span) many_in(span) of_range(span,versions)
        shortened(span,versions)""",
    "rangetexts": """is_bound(thing) is_range_text(thing) bound_range(bound) row_range(row) bounds_in(text)
        read_range(text) bounds_for(span) range_text(span) rewritten(text) tell_alike(one,other)
        parted_at(one,other) rows_holding(text,version) idle_rows(text) fewest_rows(text)""",
    "marks": """is_words(thing) is_mark(thing) is_mark_text(thing) holds(mark,words) names_of(mark) hangs_on(mark)
        with_word(mark,name,there) plain_mark(mark) holds_always(mark) holds_never(mark) marks_alike(one,other)
        follows(one,other) parting_words(one,other) words_for(mark) reason(mark,words) is_reason(mark,words,thing)
        mark_text(mark) read_mark(text)""",
    "registry": """is_need(thing) is_release(thing) is_registry(thing) is_wish(thing) names_in(registry)
        versions_of(registry,name) parts_of(registry,name) release_at(registry,name,version)
        publish(registry,release) pull(registry,name,version) put_back(registry,name,version)
        take_out(registry,name,version) put_together(one,other) differing(one,other)
        is_open(registry,early,item,version) open_versions(registry,early,item) speaking_of(registry,name)
        registry_faults(registry) is_registry_fault(registry,thing)""",
    "items": """is_item(thing) targets(need) counting(wish) needs_of(registry,item,version)
        asked_by(registry,wish,item,version) name_order(registry,wish) order(registry,wish)
        order_place(registry,wish,item) states(registry,wish,item) ranks(registry,wish,lock)
        lock_ranked(registry,wish,places) lots(registry,wish) closing(registry,wish,item,version)
        closes(registry,wish,item,version) reached(registry,wish)""",
    "locks": """is_lock(thing) state_of(lock,item) with_state(lock,item,state) is_met(lock,need)
        faults(registry,wish,lock) first_fault(registry,wish,lock) fits(registry,wish,lock)
        needed(registry,wish,lock) lean(registry,wish,lock) is_lean(registry,wish,lock)
        first_other(registry,wish,one,other) is_better(registry,wish,one,other) by_names(lock) from_names(rows)""",
    "lines": """is_term(thing) is_line(thing) is_beginning(thing) term_holds(term,state) term_both(one,other)
        term_either(one,other) term_not(term) term_inside(one,other) line_of(terms) term_at(line,item)
        line_met(line,lock) line_begun(line,beginning) lines_joined(item,near,far) line_inside(one,other)
        parting_lock(one,other) is_parting_lock(one,other,thing) is_leaf(registry,wish,thing)
        leaf_line(registry,wish,leaf) leaves(registry,wish) met_leaves(registry,wish,lock)""",
    "refusals": """is_refusal(registry,wish,thing) refuses(registry,wish,thing)
        refuses_beginning(registry,wish,beginning,thing) refusal_line(registry,wish,refusal)
        leaf_reached(registry,wish,refusal,lock) leaves_used(refusal) needs_used(refusal) releases_used(refusal)
        joins_in(refusal) items_joined(refusal) joined_all(item,refusals) trimmed(registry,wish,refusal)
        rows_of(refusal) is_rows(thing) of_rows(rows) lines_by_rows(registry,wish,rows)""",
    "solve": """has(lock,beginning) leaf_against(registry,wish,beginning) next_item(registry,wish,beginning)
        closed(registry,wish,item,refusals) first_known(registry,wish,refusals,beginning)
        best_having(registry,wish,beginning) refusal_having(registry,wish,beginning) solved(registry,wish)
        is_solved(registry,wish,thing) can_fit(registry,wish) best_lock(registry,wish) refusal_of(registry,wish)
        looked_at(registry,wish)""",
    "best": """turnings(registry,wish,locks) turnings_ahead(registry,wish,locks) rank_paper(registry,wish,locks)
        full_paper(registry,wish,locks) is_rank_paper(registry,wish,locks,thing)
        is_full_paper(registry,wish,locks,thing) best_locks(registry,wish,many) ranked(registry,wish,number)
        rank_of(registry,wish,lock) better_lock(registry,wish,lock) is_better_lock(registry,wish,lock,thing)
        next_best(registry,wish,lock) next_better(registry,wish,lock) turned_down(registry,wish)""",
    "updates": """kept_states(registry,wish,old,item) keeps_more(registry,wish,old,one,other)
        held(registry,wish,old) updated(registry,wish,old) refreshed(registry,wish,old,names)
        fate(registry,wish,old,item) lost(registry,wish,old) lost_paper(registry,wish,old,item)
        is_lost_paper(registry,wish,old,item,thing) unlike_states(one,other)
        best_behind(registry,wish,release) stays(registry,wish,release)""",
    "alllocks": """lean_locks(registry,wish) how_many(registry,wish) lean_at(registry,wish,number)
        lean_number(registry,wish,lock) shares(registry,wish) kind_of(registry,wish,item,version)
        states_had(registry,wish,item) sure(registry,wish) dead(registry,wish)
        sure_paper(registry,wish,item,version) is_sure_paper(registry,wish,item,version,thing)
        pairs_apart(registry,wish) cover(registry,wish) is_cover(registry,wish,thing)""",
    "least": """cut(wish,begun,numbers) clashing(registry,wish,begun,numbers) core(registry,wish,begun)
        drop(registry,wish,begun) cores(registry,wish,begun) drops(registry,wish,begun) blame(registry,wish,begun)
        fewest_dropped(registry,wish,begun) loosened(registry,wish,begun) least_meets(sets)
        core_paper(registry,wish,begun,numbers) drop_paper(registry,wish,begun,numbers)
        is_core_paper(registry,wish,begun,thing) is_drop_paper(registry,wish,begun,thing)""",
    "plans": """changed(near,far) lock_then(near,far,names) arrows(registry,wish,near,far)
        why_arrow(registry,wish,near,far,x,y) keeps_ahead(registry,wish,near,far,names)
        all_ahead(registry,wish,near,far) goes_with(registry,wish,near,far,name) knots(registry,wish,near,far)
        plan(registry,wish,near,far) is_plan(registry,wish,near,far,thing) one_by_one(registry,wish,near,far)
        tie(registry,wish,near,far) is_tie(registry,wish,near,far,thing)""",
    "store": """is_disk(thing) blank_disk(notes,rooms) is_writing(disk,thing) read_disk(disk) earlier_lock(disk)
        written(disk,writing) cut_behind(disk,writing,many) cut_disks(disk,writing) end_disks(disk,writing)
        read_locks(disk,writing) mend_steps(disk) mended(disk) room_changes(disk,lock) install_steps(disk,lock)
        undo_steps(disk) clean_steps(disk) is_safe(disk,writing,lock) bad_cut(disk,writing,lock)
        is_bad_cut(disk,writing,lock,thing) needless_steps(disk,writing,lock)""",
    "platforms": """is_family(thing) words_by(surely,maybe) words_told(registry,wish) idle_words(registry,wish)
        needs_counting(registry,wish,words) kinds(registry,wish,family) lock_table(registry,wish,family)
        refused_words(registry,wish,family) fitting_words(registry,wish,family,lock)
        parting_platforms(registry,wish,family) for_all(registry,wish,family) one_lock(registry,wish,family)
        one_refusal(registry,wish,family) few_locks(registry,wish,family) are_locks_for(registry,wish,family,thing)""",
    "reasons": """asks(registry,wish,lock) who_asks(registry,wish,lock,item) way_to(registry,wish,lock,item)
        is_way(registry,wish,lock,item,thing) ways_apart(registry,wish,lock,item)
        are_ways_apart(registry,wish,lock,item,thing) asks_to_drop(registry,wish,lock,item)
        is_ask_drop(registry,wish,lock,item,thing) in_each_way(registry,wish,lock,item)
        falls_with(registry,wish,lock,item) after_pull(registry,wish,name,version) harm(registry,wish,name,version)
        hurt(registry,wishes,name,version) must_releases(registry,wish) must_refusal(registry,wish,name,version)""",
    "judge": """is_claim(thing) is_so(claim) paper(claim) is_paper(claim,thing) shows(claim,thing) not_so(claims)
        words_so(claims)""",
    "texts": """registry_text(registry) wish_text(wish) lock_text(lock) need_text(need) lock_changes(one,other)
        read_registry(text) read_wish(text) read_lock(text) read_need(text) lock_changed(lock,text)
        lock_turned(text)""",
    "shell": """first_shell() is_request(thing) requests(text) house_after(house,request) told(house,request)
        worked(shell,request) session(shell,text)""",
}
