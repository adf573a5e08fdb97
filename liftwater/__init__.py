"""Liftwater: a stair of locks, where goods that go down lift the water."""
