"""The tests of eyeorder; they rest on nothing but what the document promises."""
