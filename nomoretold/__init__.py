"""What two people can find out together, telling one another nothing more."""
