"""Joinedasks: many hands at one box, their asks joined on the way."""
