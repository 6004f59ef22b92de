"""Cards of different heights, laid one after another into the lowest column."""
