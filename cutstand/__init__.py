"""Cutstand: machines that fall, and cuts and lines that stand."""
