"""Onelongturn: the same trips every day, by the fewest vehicles, and by one turn through all of them."""
