"""The tests of mathboxes."""
