"""Ticktrees: trees of deeds made from told rows of ticks."""
