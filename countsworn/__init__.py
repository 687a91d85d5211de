"""A counter of the fillings of a formula, which leaves a sheet that can be checked."""
