"""Tests of latelaw."""
