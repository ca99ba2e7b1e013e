"""Tests of unknowncalls."""
