"""Clashnumber: how many answers a contradiction takes."""
