"""Wholecommits: a store of versions that stands in one serial order, whatever is cut."""
