"""Judges of runs: views, what holds in all of them, counted coins, talks as rows, rules left out, locked squares."""
