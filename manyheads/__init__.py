"""Manyheads: a version store whose sheets follow from sets of patches alone."""
