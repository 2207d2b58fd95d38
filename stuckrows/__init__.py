"""Which transactions can wait for one another for ever, for any number of them."""
