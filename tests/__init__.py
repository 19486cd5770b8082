"""The tests of boutstairs."""
