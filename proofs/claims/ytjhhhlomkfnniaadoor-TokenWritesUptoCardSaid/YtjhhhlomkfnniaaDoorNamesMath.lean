/-
  Plain mathematics for stage 5: the lists of elements, what each closes and what ends the search, texts that may be names. Nothing of the program stands here.
-/
import Derived.Test.YtjhhhlomkfnniaaDoorStr
import Derived.Test.YtjhhhlomkfnniaaDoorFoldMath
namespace Go.Proofs.YtjhhhlomkfnniaaDoor.Nm
set_option linter.unusedSimpArgs false
set_option linter.unusedVariables false
open Ba Fm

abbrev n_button : ByteArray := ⟨#[98, 117, 116, 116, 111, 110]⟩
abbrev n_caption : ByteArray := ⟨#[99, 97, 112, 116, 105, 111, 110]⟩
abbrev n_dd : ByteArray := ⟨#[100, 100]⟩
abbrev n_dl : ByteArray := ⟨#[100, 108]⟩
abbrev n_dt : ByteArray := ⟨#[100, 116]⟩
abbrev n_li : ByteArray := ⟨#[108, 105]⟩
abbrev n_menu : ByteArray := ⟨#[109, 101, 110, 117]⟩
abbrev n_ol : ByteArray := ⟨#[111, 108]⟩
abbrev n_optgroup : ByteArray := ⟨#[111, 112, 116, 103, 114, 111, 117, 112]⟩
abbrev n_option : ByteArray := ⟨#[111, 112, 116, 105, 111, 110]⟩
abbrev n_p : ByteArray := ⟨#[112]⟩
abbrev n_select : ByteArray := ⟨#[115, 101, 108, 101, 99, 116]⟩
abbrev n_table : ByteArray := ⟨#[116, 97, 98, 108, 101]⟩
abbrev n_tbody : ByteArray := ⟨#[116, 98, 111, 100, 121]⟩
abbrev n_td : ByteArray := ⟨#[116, 100]⟩
abbrev n_template : ByteArray := ⟨#[116, 101, 109, 112, 108, 97, 116, 101]⟩
abbrev n_tfoot : ByteArray := ⟨#[116, 102, 111, 111, 116]⟩
abbrev n_th : ByteArray := ⟨#[116, 104]⟩
abbrev n_thead : ByteArray := ⟨#[116, 104, 101, 97, 100]⟩
abbrev n_tr : ByteArray := ⟨#[116, 114]⟩
abbrev n_ul : ByteArray := ⟨#[117, 108]⟩
abbrev voidL : List ByteArray := [⟨#[97, 114, 101, 97]⟩, ⟨#[98, 97, 115, 101]⟩, ⟨#[98, 114]⟩, ⟨#[99, 111, 108]⟩, ⟨#[101, 109, 98, 101, 100]⟩, ⟨#[104, 114]⟩, ⟨#[105, 109, 103]⟩, ⟨#[105, 110, 112, 117, 116]⟩, ⟨#[108, 105, 110, 107]⟩, ⟨#[109, 101, 116, 97]⟩, ⟨#[112, 97, 114, 97, 109]⟩, ⟨#[115, 111, 117, 114, 99, 101]⟩, ⟨#[116, 114, 97, 99, 107]⟩, ⟨#[119, 98, 114]⟩]
abbrev rawL : List ByteArray := [⟨#[105, 102, 114, 97, 109, 101]⟩, ⟨#[110, 111, 101, 109, 98, 101, 100]⟩, ⟨#[110, 111, 102, 114, 97, 109, 101, 115]⟩, ⟨#[115, 99, 114, 105, 112, 116]⟩, ⟨#[115, 116, 121, 108, 101]⟩, ⟨#[120, 109, 112]⟩]
abbrev softL : List ByteArray := [⟨#[116, 101, 120, 116, 97, 114, 101, 97]⟩, ⟨#[116, 105, 116, 108, 101]⟩]
abbrev blockL : List ByteArray := [⟨#[97, 100, 100, 114, 101, 115, 115]⟩, ⟨#[97, 114, 116, 105, 99, 108, 101]⟩, ⟨#[97, 115, 105, 100, 101]⟩, ⟨#[98, 108, 111, 99, 107, 113, 117, 111, 116, 101]⟩, ⟨#[99, 101, 110, 116, 101, 114]⟩, n_dd, ⟨#[100, 101, 116, 97, 105, 108, 115]⟩, ⟨#[100, 105, 97, 108, 111, 103]⟩, ⟨#[100, 105, 114]⟩, ⟨#[100, 105, 118]⟩, n_dl, n_dt, ⟨#[102, 105, 101, 108, 100, 115, 101, 116]⟩, ⟨#[102, 105, 103, 99, 97, 112, 116, 105, 111, 110]⟩, ⟨#[102, 105, 103, 117, 114, 101]⟩, ⟨#[102, 111, 111, 116, 101, 114]⟩, ⟨#[102, 111, 114, 109]⟩, ⟨#[104, 49]⟩, ⟨#[104, 50]⟩, ⟨#[104, 51]⟩, ⟨#[104, 52]⟩, ⟨#[104, 53]⟩, ⟨#[104, 54]⟩, ⟨#[104, 101, 97, 100, 101, 114]⟩, ⟨#[104, 103, 114, 111, 117, 112]⟩, ⟨#[104, 114]⟩, n_li, ⟨#[109, 97, 105, 110]⟩, n_menu, ⟨#[110, 97, 118]⟩, n_ol, n_p, ⟨#[112, 114, 101]⟩, ⟨#[115, 101, 99, 116, 105, 111, 110]⟩, ⟨#[115, 117, 109, 109, 97, 114, 121]⟩, n_table, n_ul, ⟨#[120, 109, 112]⟩]
abbrev goneL : List ByteArray := [⟨#[98, 111, 100, 121]⟩, ⟨#[102, 114, 97, 109, 101, 115, 101, 116]⟩, ⟨#[104, 101, 97, 100]⟩, ⟨#[104, 116, 109, 108]⟩]
abbrev tableL : List ByteArray := [n_tbody, n_td, n_tfoot, n_th, n_thead, n_tr]

/-- What an element closes. -/
def closesL (s : ByteArray) : List ByteArray :=
  if s = n_li then [n_li] else if s = n_dd then [n_dd, n_dt] else if s = n_dt then [n_dd, n_dt] else if s = n_option then [n_option] else if s = n_optgroup then [n_optgroup, n_option] else if s = n_tr then [n_td, n_th, n_tr]
  else if s = n_td then [n_td, n_th] else if s = n_th then [n_td, n_th] else if s = n_tbody then tableL else if s = n_tfoot then tableL else if s = n_thead then tableL else if isIn s blockL = true then [n_p] else []
/-- What ends the search. -/
def wallsL (s : ByteArray) : List ByteArray :=
  if s = n_li then [n_menu, n_ol, n_template, n_ul] else if s = n_dd then [n_dl, n_template] else if s = n_dt then [n_dl, n_template] else if s = n_option then [n_select, n_template] else if s = n_optgroup then [n_select, n_template]
  else if s = n_tr then [n_table, n_template] else if s = n_td then [n_table, n_template] else if s = n_th then [n_table, n_template] else if s = n_tbody then [n_table, n_template] else if s = n_tfoot then [n_table, n_template] else if s = n_thead then [n_table, n_template]
  else [n_button, n_caption, n_table, n_td, n_template, n_th]

/-- The names that close or wall anything of their own. -/
abbrev ownL : List ByteArray := [n_li, n_dd, n_dt, n_option, n_optgroup, n_tr, n_td, n_th, n_tbody, n_tfoot, n_thead]

/-- May a byte stand in an element's name; in an attribute's. -/
def elB (c : UInt8) : Bool := !(sp c || (65 ≤ c && c ≤ 90) || c == 0 || c == 47 || c == 62)
def atB (c : UInt8) : Bool := elB c && !(c == 34 || c == 39 || c == 60 || c == 61)
def small (c : UInt8) : Bool := 97 ≤ c && c ≤ 122
def rightL : List UInt8 → Bool
  | [] => false
  | c :: r => small c && (c :: r).all elB
def attrL : List UInt8 → Bool
  | [] => false
  | c :: r => (c :: r).all atB
def rightB (s : ByteArray) : Bool := rightL (L s)
def attrB (s : ByteArray) : Bool := attrL (L s)

end Go.Proofs.YtjhhhlomkfnniaaDoor.Nm
