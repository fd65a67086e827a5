"""Programs with open loops, and what they do for all counts."""
