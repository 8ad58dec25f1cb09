"""Glued lines: put records of several lines together again, and decide whether a rule does so."""
