"""Barebough: two sides pluck a tree in any order of turns."""
