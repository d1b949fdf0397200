"""Logtrees: the shape of trees over logs that only grow."""
