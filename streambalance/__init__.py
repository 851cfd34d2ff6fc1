"""A plant's streams, balanced in exact fractions: see streambalance.sheet."""
