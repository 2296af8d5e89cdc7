"""Machines that talk by rows out of which letters leak."""
