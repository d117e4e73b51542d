"""The tests of weirkeepers."""
