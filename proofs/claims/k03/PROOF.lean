import PyProof.Rows.All
import Wide.All
import OpenK.AllK
import Wide.FinOn
import HandS.ForMost
import HandS.Exc
import HandS.TryOnly
import HandS.ExcOwn
import HandS.WordsExc
import HandS.ExcInit
import HandS.Steps
import HandS.Codes
import HandS.Evl
import HandS.Flow
import HandS.StrMore
import HandS.StrSplit
import HandS.Sort
import HandS.SortKw
import HandS.NoneIn
import HandS.More
import HandS.IsInst
import HandS.WrittenGet
import HandS.ListEq
import HandS.Deep
import HandS.FStr
import HandS.Style
import HandS.Walk
import HandS.Nested
import HandS.NestedK
import HandS.ExcSuper
import KE.KExcSuper
import PySem.Challenge.RW_watervalves_k03_canonical_plans
import HandS.HeadHook4
import HandS.HeadWalk
import HandS.EndTab
import HandS.ExcField
import HandS.ExcIs
import KE.KStateDown
import HandS.Head0
import HandS.Head1
import HandS.Head2
import Wide.Once
import HandS.Lambda
import HandS.SortRule
import HandS.RaiseMore
import HandS.Conv
import PyProof.StrLawsReplace
import HandS.TupSets
import HandS.Replace
import HandS.ReplaceLit
import PyProof.ToksMono
section WvA_
set_option Elab.async false
set_option linter.all false
set_option maxRecDepth 100000
set_option maxHeartbeats 4000000
namespace Wv
open PySem L2
/-! ### texts as lists of codes -/
open SX (S S_len S_inj)
theorem S_of (z : Str) : S z.cps.toList = z := SX.S_tl z
theorem S_eq {a b : List Nat} : (S a = S b) ↔ a = b := ⟨fun h => S_inj h, fun h => by rw [h]⟩
theorem vS_eq {a b : List Nat} : (V.str (S a) = V.str (S b)) ↔ a = b := ⟨fun h => S_inj (by injection h), fun h => by rw [h]⟩
theorem line_of {n : Nat} (h : n ≤ 100000) : n ≤ sizeLine := Nat.le_trans h (by decide)
theorem line_lt {n : Nat} (h : n ≤ 100000) : n < sizeLine := Nat.lt_of_le_of_lt h (by decide)

theorem cut_nat {row : List Nat} {c e : Nat} (h : c ≤ e) (h2 : e ≤ row.length) : cutS (S row) (some ((c : Nat) : Int)) (some ((e : Nat) : Int)) = S ((row.drop c).take (e - c)) := by
  unfold cutS
  rw [HT.sIx_nat, HT.sIx_nat, S_len, Nat.min_eq_left (Nat.le_trans h h2), Nat.min_eq_left h2]
theorem tyV_str {K : PySem.W.Frag} {z : Str} {H : Hp} : tyV K "str" (.str z) H = True := by
  simp [tyV]
theorem tyV_lst {K : PySem.W.Frag} {a : Addr} {xs : List V} {H : Hp} (h : H a = some (.lst xs)) : tyV K "list" (.ref a) H := .inl ⟨rfl, _, SqL.of h⟩
theorem putF_nil {f : Str} {v : V} : putF f v [] = [(f, v)] := rfl
theorem putF_cons {f g : Str} {v u : V} {r : List (Str × V)} : putF f v ((g, u) :: r) = if g = f then (g, v) :: r else (g, u) :: putF f v r := rfl
theorem cx_K {CX : CXT} {P : Program} {w : World} {K : PySem.W.Frag} {mg : Str → Option Value} {base : Heap} {N : List Str} {qual : Str} {scope : Scope} {f : Addr} {cd : Value} {A : Around} {outer : List Env} {s : Shared} {H : Hp} {E : XK} :
    (cxOf CX P w K mg base N qual scope f cd A outer s H E).K = K := rfl
theorem nox_K {X : Cx} : X.nox.K = X.K := rfl
theorem scal_ss {a b : Str} : (scal (.str a) (.str b) = true) = True := by simp [scal]
theorem scal_ii {a b : Int} : (scal (.int a) (.int b) = true) = True := by simp [scal]
theorem scal_bb {a b : Bool} : (scal (.bl a) (.bl b) = true) = True := by simp [scal]
theorem scal_ns {b : Str} : (scal .non (.str b) = true) = True := by simp [scal]
theorem scal_sn {b : Str} : (scal (.str b) .non = true) = True := by simp [scal]
theorem scal_nn : (scal .non .non = true) = True := by simp [scal]
/-! ### where a def, a method, a class of the program stands, and what it promises -/
structure DF (P : Program) (w : World) (K : PySem.W.Frag) (mg : Str → Option Value) (base : Heap) (CX : CXT) (k : Nat) (x : Str) (ps : List Str) (sp : Sp) where
  f : Addr
  fd : FuncData
  G : FnOk P w K mg base CX k f fd ps sp
  mg : mg x = some (.ref f)
  kp : PySem.W.keepIn K (.ref f) = true
  b : Binds K fd ps []
structure DM (P : Program) (w : World) (K : PySem.W.Frag) (mg : Str → Option Value) (base : Heap) (CX : CXT) (k : Nat) (C : Addr) (x : Str) (ps : List Str) (sp : Sp) where
  f : Addr
  fd : FuncData
  G : FnOk P w K mg base CX k f fd ps sp
  m : Meth K C x f
  b : Binds K fd ps []
/-- a class: C stands at its address; made by its __init__ -/
structure DC (P : Program) (w : World) (K : PySem.W.Frag) (mg : Str → Option Value) (base : Heap) (CX : CXT) (k : Nat) (C : Addr) (x : Str) (ps : List Str) (sp : Sp) where
  f : Addr
  fd : FuncData
  G : FnOk P w K mg base CX k f fd ps sp
  M : Mk K C f
  mg : mg x = some (.ref C)
  b : Binds K fd ps []
  cl : Cls K C

/-! ### the lexer's mirror -/
def letters : List Nat := List.range' 97 26
def digits : List Nat := List.range' 48 10
def run (al row : List Nat) (c : Nat) : List Nat := (row.drop c).takeWhile fun x => decide (x ∈ al)
def keywords : List (List Nat) := [[114, 111, 117, 110, 100], [111, 112, 101, 110], [118, 97, 108, 118, 101, 115], [115, 116, 97, 114, 116], [102, 111, 114], [112, 97, 117, 115, 101], [114, 97, 110, 107]]
def isNumber (d : List Nat) : Bool := if d = [] ∨ 2 < d.length then false else (d = [48] : Bool) || (d.head? != some 48)
def nameK : List Nat := [110, 97, 109, 101]
def numberK : List Nat := [110, 117, 109, 98, 101, 114]
def wordKind (wd : List Nat) : List Nat := if wd ∈ keywords then wd else nameK

def kinds : List (List Nat) := keywords ++ [nameK, numberK, [59]]
def headL : List (List Nat) := [[114, 111, 117, 110, 100], [111, 112, 101, 110], [118, 97, 108, 118, 101, 115]]
def namesK : List Nat := [110, 97, 109, 101, 115]
def forK : List Nat := [102, 111, 114]
def formsL : List (List Nat × List (List Nat)) := [([114, 111, 117, 110, 100], [numberK]), ([111, 112, 101, 110], [numberK]), ([118, 97, 108, 118, 101, 115], [namesK]), ([115, 116, 97, 114, 116], [nameK, numberK, forK, numberK]), ([112, 97, 117, 115, 101], [numberK, numberK]), ([114, 97, 110, 107], [namesK])]
def forms (k : List Nat) : Option (List (List Nat)) := formsL.lookup k
/-! ### tokens -/
structure WTok where
  kind : List Nat
  text : List Nat
  line : Nat
  col : Nat
def tokAt (row : List Nat) (ln c : Nat) : Option WTok :=
  if row[c]? = some 59 then some ⟨[59], [59], ln, c⟩ else
  if run letters row c ≠ [] ∧ (run letters row c).length ≤ 8 then some ⟨wordKind (run letters row c), run letters row c, ln, c⟩ else
  if isNumber (run digits row c) = true then some ⟨numberK, run digits row c, ln, c⟩ else none
def rowFrom (row : List Nat) (ln : Nat) : Nat → Nat → Except (Nat × Nat) (List WTok)
  | 0, _ => .ok []
  | n + 1, c => if c < row.length then
      (if row[c]? = some 32 then rowFrom row ln n (c + 1) else
        match tokAt row ln c with
        | none => .error (ln, c)
        | some t => match rowFrom row ln n (c + t.text.length) with
          | .ok ts => .ok (t :: ts)
          | .error e => .error e)
    else .ok []
def rowToks (row : List Nat) (ln : Nat) : Except (Nat × Nat) (List WTok) := rowFrom row ln row.length 0
def lexFrom : Nat → List (List Nat) → Except (Nat × Nat) (List WTok)
  | _, [] => .ok []
  | ln, r :: rs => match rowToks r ln with
    | .error e => .error e
    | .ok ts => match lexFrom (ln + 1) rs with
      | .error e => .error e
      | .ok us => .ok (ts ++ us)
def rowsOf (z : List Nat) : List (List Nat) := TL.spl [10] 0 [] z
def lex (z : List Nat) : Except (Nat × Nat) (List WTok) := lexFrom 0 (rowsOf z)
/-! ### how tokens lie in the heap -/
def TokAt (C : Addr) (H : Hp) (p : Addr) (t : WTok) : Prop := ∃ dx, H p = some (.ins C dx [("kind", .str (S t.kind)), ("text", .str (S t.text)), ("line", .int (t.line : Nat)), ("column", .int (t.col : Nat))])
theorem TokAt.mono {C : Addr} {H H' : Hp} {p : Addr} {t : WTok} (h : TokAt C H p t) (e : Same H H') : TokAt C H' p t := by
  obtain ⟨dx, h⟩ := h
  exact ⟨dx, e _ _ h⟩
/-- at the addresses as stand the things ts -/
def Each {α : Type} (R : Addr → α → Prop) (as : List Addr) (ts : List α) : Prop := as.length = ts.length ∧ ∀ (i : Nat) (a : Addr) (t : α), as[i]? = some a → ts[i]? = some t → R a t
theorem Each.nil {α : Type} {R : Addr → α → Prop} : Each R [] [] := ⟨rfl, fun i a t h => by simp at h⟩
theorem Each.snoc {α : Type} {R : Addr → α → Prop} {as : List Addr} {ts : List α} {a : Addr} {t : α} (h : Each R as ts) (r : R a t) : Each R (as ++ [a]) (ts ++ [t]) := by
  refine ⟨by simp [h.1], fun i b u hb hu => ?_⟩
  by_cases hi : i < as.length
  · rw [List.getElem?_append_left hi] at hb
    rw [List.getElem?_append_left (by rw [← h.1]; exact hi)] at hu
    exact h.2 i b u hb hu
  · rw [List.getElem?_append_right (by omega)] at hb
    rw [List.getElem?_append_right (by rw [← h.1]; omega), ← h.1] at hu
    cases hk : i - as.length with
    | zero => rw [hk] at hb hu; simp at hb hu; subst hb; subst hu; exact r
    | succ n => rw [hk] at hb; simp at hb
theorem Each.append {α : Type} {R : Addr → α → Prop} {as bs : List Addr} {ts us : List α} (h : Each R as ts) (k : Each R bs us) : Each R (as ++ bs) (ts ++ us) := by
  refine ⟨by simp [h.1, k.1], fun i b u hb hu => ?_⟩
  by_cases hi : i < as.length
  · rw [List.getElem?_append_left hi] at hb
    rw [List.getElem?_append_left (by rw [← h.1]; exact hi)] at hu
    exact h.2 i b u hb hu
  · rw [List.getElem?_append_right (by omega)] at hb
    rw [List.getElem?_append_right (by rw [← h.1]; omega), ← h.1] at hu
    exact k.2 _ b u hb hu
theorem Each.imp {α : Type} {R R' : Addr → α → Prop} {as : List Addr} {ts : List α} (h : Each R as ts) (f : ∀ a t, R a t → R' a t) : Each R' as ts := ⟨h.1, fun i a t x y => f a t (h.2 i a t x y)⟩
/-- a list of objects -/
def LstAt {α : Type} (R : Hp → Addr → α → Prop) (H : Hp) (l : Addr) (ts : List α) : Prop := ∃ as : List Addr, H l = some (.lst (as.map V.ref)) ∧ Each (R H) as ts
/-- what stood stands; new things may stand beside -/
theorem same_new {H : Hp} {p : Addr} {o : HO} (h : H p = none) : Same H (upd H p o) := fun a u e => by
  rw [upd_ne (ne_of_none e h)]
  exact e
theorem same_mut {H H' : Hp} {p : Addr} {o : HO} (e : Same H H') (h : H p = none) : Same H (upd H' p o) := fun a u ha => by
  rw [upd_ne (ne_of_none ha h)]
  exact e a u ha
/-! ### the two faults -/
/-- what a caller wants of a SyntaxFault at line l, column c -/
def ESyn (CS : Addr) (H : Hp) (E : XK) (l c : Nat) : Prop := ∀ d fs H', H d = none → Same H H' → H' d = some (.xd fs) → fs.lookup ("line" : Str) = some (.int (l : Nat)) → fs.lookup ("column" : Str) = some (.int (c : Nat)) → E (.ref CS) (some d) H'
def EChk (CC : Addr) (H : Hp) (E : XK) (r : List Nat) (l c : Nat) : Prop := ∀ d fs H', H d = none → Same H H' → H' d = some (.xd fs) → fs.lookup ("reason" : Str) = some (.str (S r)) → fs.lookup ("line" : Str) = some (.int (l : Nat)) → fs.lookup ("column" : Str) = some (.int (c : Nat)) → E (.ref CC) (some d) H'
theorem ESyn.mono {CS : Addr} {H H' : Hp} {E : XK} {l c : Nat} (h : ESyn CS H E l c) (e : Same H H') : ESyn CS H' E l c := fun d fs H2 hd s1 => h d fs H2 (e.free hd) (e.trans s1)
theorem EChk.mono {CC : Addr} {H H' : Hp} {E : XK} {r : List Nat} {l c : Nat} (h : EChk CC H E r l c) (e : Same H H') : EChk CC H' E r l c := fun d fs H2 hd s1 => h d fs H2 (e.free hd) (e.trans s1)
/-- making a SyntaxFault, a CheckFault -/
def tMkSyn (CS : Addr) (ta : TA) : St → Hp → XK → Prop := fun σ H Q => ta σ H fun vs H1 => ∃ i j : Nat, vs = [.int (i : Nat), .int (j : Nat)] ∧ i ≤ 1000000 ∧ j ≤ 1000000 ∧ ESyn CS H1 Q i j
def tMkChk (CC : Addr) (ta : TA) : St → Hp → XK → Prop := fun σ H Q => ta σ H fun vs H1 => ∃ (r : List Nat) (i j : Nat), vs = [.str (S r), .int (i : Nat), .int (j : Nat)] ∧ r.length ≤ 100 ∧ i ≤ 1000000 ∧ j ≤ 1000000 ∧ EChk CC H1 Q r i j
end Wv
end WvA_
section WvN_
set_option Elab.async false
set_option linter.all false
set_option maxRecDepth 100000
namespace Wv
open PySem L2
theorem n_kind_text : (("kind" : Str) = "text") = False := eq_false (by decide +kernel)
theorem n_kind_line : (("kind" : Str) = "line") = False := eq_false (by decide +kernel)
theorem n_kind_column : (("kind" : Str) = "column") = False := eq_false (by decide +kernel)
theorem n_text_kind : (("text" : Str) = "kind") = False := eq_false (by decide +kernel)
theorem n_text_line : (("text" : Str) = "line") = False := eq_false (by decide +kernel)
theorem n_text_column : (("text" : Str) = "column") = False := eq_false (by decide +kernel)
theorem n_line_kind : (("line" : Str) = "kind") = False := eq_false (by decide +kernel)
theorem n_line_text : (("line" : Str) = "text") = False := eq_false (by decide +kernel)
theorem n_line_column : (("line" : Str) = "column") = False := eq_false (by decide +kernel)
theorem n_column_kind : (("column" : Str) = "kind") = False := eq_false (by decide +kernel)
theorem n_column_text : (("column" : Str) = "text") = False := eq_false (by decide +kernel)
theorem n_column_line : (("column" : Str) = "line") = False := eq_false (by decide +kernel)
theorem n_keyword_names : (("keyword" : Str) = "names") = False := eq_false (by decide +kernel)
theorem n_keyword_numbers : (("keyword" : Str) = "numbers") = False := eq_false (by decide +kernel)
theorem n_names_keyword : (("names" : Str) = "keyword") = False := eq_false (by decide +kernel)
theorem n_names_numbers : (("names" : Str) = "numbers") = False := eq_false (by decide +kernel)
theorem n_numbers_keyword : (("numbers" : Str) = "keyword") = False := eq_false (by decide +kernel)
theorem n_numbers_names : (("numbers" : Str) = "names") = False := eq_false (by decide +kernel)
theorem n_tokens_lines : (("tokens" : Str) = "lines") = False := eq_false (by decide +kernel)
theorem n_tokens_taken : (("tokens" : Str) = "taken") = False := eq_false (by decide +kernel)
theorem n_lines_tokens : (("lines" : Str) = "tokens") = False := eq_false (by decide +kernel)
theorem n_lines_taken : (("lines" : Str) = "taken") = False := eq_false (by decide +kernel)
theorem n_taken_tokens : (("taken" : Str) = "tokens") = False := eq_false (by decide +kernel)
theorem n_taken_lines : (("taken" : Str) = "lines") = False := eq_false (by decide +kernel)
theorem n_ahead_tokens : (("ahead" : Str) = "tokens") = False := eq_false (by decide +kernel)
theorem n_ahead_lines : (("ahead" : Str) = "lines") = False := eq_false (by decide +kernel)
theorem n_ahead_taken : (("ahead" : Str) = "taken") = False := eq_false (by decide +kernel)
theorem n_refuse_tokens : (("refuse" : Str) = "tokens") = False := eq_false (by decide +kernel)
theorem n_refuse_lines : (("refuse" : Str) = "lines") = False := eq_false (by decide +kernel)
theorem n_refuse_taken : (("refuse" : Str) = "taken") = False := eq_false (by decide +kernel)
theorem n_take_tokens : (("take" : Str) = "tokens") = False := eq_false (by decide +kernel)
theorem n_take_lines : (("take" : Str) = "lines") = False := eq_false (by decide +kernel)
theorem n_take_taken : (("take" : Str) = "taken") = False := eq_false (by decide +kernel)
theorem n_take_names_tokens : (("take_names" : Str) = "tokens") = False := eq_false (by decide +kernel)
theorem n_take_names_lines : (("take_names" : Str) = "lines") = False := eq_false (by decide +kernel)
theorem n_take_names_taken : (("take_names" : Str) = "taken") = False := eq_false (by decide +kernel)
theorem n_take_statement_tokens : (("take_statement" : Str) = "tokens") = False := eq_false (by decide +kernel)
theorem n_take_statement_lines : (("take_statement" : Str) = "lines") = False := eq_false (by decide +kernel)
theorem n_take_statement_taken : (("take_statement" : Str) = "taken") = False := eq_false (by decide +kernel)
theorem n_period_names : (("period" : Str) = "names") = False := eq_false (by decide +kernel)
theorem n_period_starts : (("period" : Str) = "starts") = False := eq_false (by decide +kernel)
theorem n_period_ranks : (("period" : Str) = "ranks") = False := eq_false (by decide +kernel)
theorem n_names_period : (("names" : Str) = "period") = False := eq_false (by decide +kernel)
theorem n_names_starts : (("names" : Str) = "starts") = False := eq_false (by decide +kernel)
theorem n_names_ranks : (("names" : Str) = "ranks") = False := eq_false (by decide +kernel)
theorem n_starts_period : (("starts" : Str) = "period") = False := eq_false (by decide +kernel)
theorem n_starts_names : (("starts" : Str) = "names") = False := eq_false (by decide +kernel)
theorem n_starts_ranks : (("starts" : Str) = "ranks") = False := eq_false (by decide +kernel)
theorem n_ranks_period : (("ranks" : Str) = "period") = False := eq_false (by decide +kernel)
theorem n_ranks_names : (("ranks" : Str) = "names") = False := eq_false (by decide +kernel)
theorem n_ranks_starts : (("ranks" : Str) = "starts") = False := eq_false (by decide +kernel)
theorem n_check_period : (("check" : Str) = "period") = False := eq_false (by decide +kernel)
theorem n_check_names : (("check" : Str) = "names") = False := eq_false (by decide +kernel)
theorem n_check_starts : (("check" : Str) = "starts") = False := eq_false (by decide +kernel)
theorem n_check_ranks : (("check" : Str) = "ranks") = False := eq_false (by decide +kernel)
theorem n_check_valves_period : (("check_valves" : Str) = "period") = False := eq_false (by decide +kernel)
theorem n_check_valves_names : (("check_valves" : Str) = "names") = False := eq_false (by decide +kernel)
theorem n_check_valves_starts : (("check_valves" : Str) = "starts") = False := eq_false (by decide +kernel)
theorem n_check_valves_ranks : (("check_valves" : Str) = "ranks") = False := eq_false (by decide +kernel)
theorem n_check_start_period : (("check_start" : Str) = "period") = False := eq_false (by decide +kernel)
theorem n_check_start_names : (("check_start" : Str) = "names") = False := eq_false (by decide +kernel)
theorem n_check_start_starts : (("check_start" : Str) = "starts") = False := eq_false (by decide +kernel)
theorem n_check_start_ranks : (("check_start" : Str) = "ranks") = False := eq_false (by decide +kernel)
theorem n_check_pause_period : (("check_pause" : Str) = "period") = False := eq_false (by decide +kernel)
theorem n_check_pause_names : (("check_pause" : Str) = "names") = False := eq_false (by decide +kernel)
theorem n_check_pause_starts : (("check_pause" : Str) = "starts") = False := eq_false (by decide +kernel)
theorem n_check_pause_ranks : (("check_pause" : Str) = "ranks") = False := eq_false (by decide +kernel)
theorem n_check_rank_period : (("check_rank" : Str) = "period") = False := eq_false (by decide +kernel)
theorem n_check_rank_names : (("check_rank" : Str) = "names") = False := eq_false (by decide +kernel)
theorem n_check_rank_starts : (("check_rank" : Str) = "starts") = False := eq_false (by decide +kernel)
theorem n_check_rank_ranks : (("check_rank" : Str) = "ranks") = False := eq_false (by decide +kernel)
theorem n_check_known_period : (("check_known" : Str) = "period") = False := eq_false (by decide +kernel)
theorem n_check_known_names : (("check_known" : Str) = "names") = False := eq_false (by decide +kernel)
theorem n_check_known_starts : (("check_known" : Str) = "starts") = False := eq_false (by decide +kernel)
theorem n_check_known_ranks : (("check_known" : Str) = "ranks") = False := eq_false (by decide +kernel)
theorem n_period_limit : (("period" : Str) = "limit") = False := eq_false (by decide +kernel)
theorem n_period_rank : (("period" : Str) = "rank") = False := eq_false (by decide +kernel)
theorem n_period_dry : (("period" : Str) = "dry") = False := eq_false (by decide +kernel)
theorem n_period_requests : (("period" : Str) = "requests") = False := eq_false (by decide +kernel)
theorem n_limit_period : (("limit" : Str) = "period") = False := eq_false (by decide +kernel)
theorem n_limit_names : (("limit" : Str) = "names") = False := eq_false (by decide +kernel)
theorem n_limit_rank : (("limit" : Str) = "rank") = False := eq_false (by decide +kernel)
theorem n_limit_starts : (("limit" : Str) = "starts") = False := eq_false (by decide +kernel)
theorem n_limit_dry : (("limit" : Str) = "dry") = False := eq_false (by decide +kernel)
theorem n_limit_requests : (("limit" : Str) = "requests") = False := eq_false (by decide +kernel)
theorem n_names_limit : (("names" : Str) = "limit") = False := eq_false (by decide +kernel)
theorem n_names_rank : (("names" : Str) = "rank") = False := eq_false (by decide +kernel)
theorem n_names_dry : (("names" : Str) = "dry") = False := eq_false (by decide +kernel)
theorem n_names_requests : (("names" : Str) = "requests") = False := eq_false (by decide +kernel)
theorem n_rank_period : (("rank" : Str) = "period") = False := eq_false (by decide +kernel)
theorem n_rank_limit : (("rank" : Str) = "limit") = False := eq_false (by decide +kernel)
theorem n_rank_names : (("rank" : Str) = "names") = False := eq_false (by decide +kernel)
theorem n_rank_starts : (("rank" : Str) = "starts") = False := eq_false (by decide +kernel)
theorem n_rank_dry : (("rank" : Str) = "dry") = False := eq_false (by decide +kernel)
theorem n_rank_requests : (("rank" : Str) = "requests") = False := eq_false (by decide +kernel)
theorem n_starts_limit : (("starts" : Str) = "limit") = False := eq_false (by decide +kernel)
theorem n_starts_rank : (("starts" : Str) = "rank") = False := eq_false (by decide +kernel)
theorem n_starts_dry : (("starts" : Str) = "dry") = False := eq_false (by decide +kernel)
theorem n_starts_requests : (("starts" : Str) = "requests") = False := eq_false (by decide +kernel)
theorem n_dry_period : (("dry" : Str) = "period") = False := eq_false (by decide +kernel)
theorem n_dry_limit : (("dry" : Str) = "limit") = False := eq_false (by decide +kernel)
theorem n_dry_names : (("dry" : Str) = "names") = False := eq_false (by decide +kernel)
theorem n_dry_rank : (("dry" : Str) = "rank") = False := eq_false (by decide +kernel)
theorem n_dry_starts : (("dry" : Str) = "starts") = False := eq_false (by decide +kernel)
theorem n_dry_requests : (("dry" : Str) = "requests") = False := eq_false (by decide +kernel)
theorem n_requests_period : (("requests" : Str) = "period") = False := eq_false (by decide +kernel)
theorem n_requests_limit : (("requests" : Str) = "limit") = False := eq_false (by decide +kernel)
theorem n_requests_names : (("requests" : Str) = "names") = False := eq_false (by decide +kernel)
theorem n_requests_rank : (("requests" : Str) = "rank") = False := eq_false (by decide +kernel)
theorem n_requests_starts : (("requests" : Str) = "starts") = False := eq_false (by decide +kernel)
theorem n_requests_dry : (("requests" : Str) = "dry") = False := eq_false (by decide +kernel)
theorem n_reason_line : (("reason" : Str) = "line") = False := eq_false (by decide +kernel)
theorem n_reason_column : (("reason" : Str) = "column") = False := eq_false (by decide +kernel)
theorem n_line_reason : (("line" : Str) = "reason") = False := eq_false (by decide +kernel)
theorem n_column_reason : (("column" : Str) = "reason") = False := eq_false (by decide +kernel)
theorem lookup_nil {f : Str} : ([] : List (Str × V)).lookup f = none := rfl
/-- what the top says of the class Token -/
structure CToken (K : PySem.W.Frag) (C : Addr) : Prop where
  cl : Cls K C
  n1 : NoAttr K C "kind"
  n2 : NoAttr K C "text"
  n3 : NoAttr K C "line"
  n4 : NoAttr K C "column"
def oToken (v0 : V) (v1 : V) (v2 : V) (v3 : V) : List (Str × V) := [("kind", v0), ("text", v1), ("line", v2), ("column", v3)]
/-- what the top says of the class Statement -/
structure CStatement (K : PySem.W.Frag) (C : Addr) : Prop where
  cl : Cls K C
  n1 : NoAttr K C "keyword"
  n2 : NoAttr K C "names"
  n3 : NoAttr K C "numbers"
def oStatement (v0 : V) (v1 : V) (v2 : V) : List (Str × V) := [("keyword", v0), ("names", v1), ("numbers", v2)]
/-- what the top says of the class Parser -/
structure CParser (K : PySem.W.Frag) (C : Addr) : Prop where
  cl : Cls K C
  n1 : NoAttr K C "tokens"
  n2 : NoAttr K C "lines"
  n3 : NoAttr K C "taken"
def oParser (v0 : V) (v1 : V) (v2 : V) : List (Str × V) := [("tokens", v0), ("lines", v1), ("taken", v2)]
/-- what the top says of the class Checker -/
structure CChecker (K : PySem.W.Frag) (C : Addr) : Prop where
  cl : Cls K C
  n1 : NoAttr K C "period"
  n2 : NoAttr K C "names"
  n3 : NoAttr K C "starts"
  n4 : NoAttr K C "ranks"
def oChecker (v0 : V) (v1 : V) (v2 : V) (v3 : V) : List (Str × V) := [("period", v0), ("names", v1), ("starts", v2), ("ranks", v3)]
/-- what the top says of the class Garden -/
structure CGarden (K : PySem.W.Frag) (C : Addr) : Prop where
  cl : Cls K C
  n1 : NoAttr K C "period"
  n2 : NoAttr K C "limit"
  n3 : NoAttr K C "names"
  n4 : NoAttr K C "rank"
  n5 : NoAttr K C "starts"
  n6 : NoAttr K C "dry"
  n7 : NoAttr K C "requests"
def oGarden (v0 : V) (v1 : V) (v2 : V) (v3 : V) (v4 : V) (v5 : V) (v6 : V) : List (Str × V) := [("period", v0), ("limit", v1), ("names", v2), ("rank", v3), ("starts", v4), ("dry", v5), ("requests", v6)]
end Wv
end WvN_
section WvS_
set_option Elab.async false
set_option linter.all false
set_option maxRecDepth 100000
set_option maxHeartbeats 4000000
/-! own exceptions over ValueError whose __init__ says super().__init__(..) first -/
namespace Wv
open PySem PySem.Spec PyProof.Rows L2 NdefX
section
open PySem.W
variable {prog : Program} {w : World} {A : Around} {E : Value → Shared → Prop} {h : Heap} {g : Array GenState} {d : Drawn} {t : Nat} {os : OsState}
variable {nm q : Str} {C N : Addr} {bs bm : List Value} {hdct : Bool} {sn : List Str} {sub : List Value} {ab : Bool} {col : Option Bool} {dd : Option Addr} {k0 k1 k2 k3 k5 : Option Value}
/-- the bound ValueError.__init__ is called -/
theorem mw_call {u e t0 : Addr} {rest : List Value} {Q : Value → Shared → Prop}
    (hC : h.get? C = some (excClassObj nm q C N bs bm hdct sn sub ab col dd k0 k1 k2 k3 k5 "ValueError.__new__")) (he : h.get? e = some (HandSPX.excO C t0)) (hu : h.get? u = some (kxs_mw "ValueError.__init__" e)) (hrest : rest.length ≤ sizeLine)
    (hq : ∀ h' t1, (∀ b o, b ≠ e → h.get? b = some o → h'.get? b = some o) → h'.get? e = some (HandSPX.excO C t1) → Q .none ⟨h', g, d, t, os⟩) :
    wpAny (model prog w) A (call (.ref u) rest) Q E ⟨h, g, d, t, os⟩ := by
  refine wpAny_call (codeAny_of_tree ?_)
  show wpAny _ A.in1 (callAny (.ref u) ⟨rest, []⟩) _ _ _
  simp only [callAny]
  refine wpAny_bind (wpAny_load hu ?_)
  simp only [kxs_mw, show (Value.type "method-wrapper" == Value.type "method" || Value.type "method-wrapper" == Value.type "builtin_function_or_method" || Value.type "method-wrapper" == Value.type "method-wrapper") = true by decide, if_true]
  refine KFB.if_so (by decide) ?_
  refine wpAny_bind (ESX.check_bound F.excBase_ValueError hC he rfl ?_)
  refine wpAny_bind (wpAny_pure (wpAny_pure ?_))
  refine ⟨Code.quiet_builtin _ (by decide +kernel), codeAny_builtin F.excBase_ValueError.initEntry ?_⟩
  rw [Around.under_plainId F.excBase_ValueError.init.plain _]
  wp_walk
  refine hq _ h.objs.size (fun b o hb ho => ?_) ?_
  · rw [Heap.get?_update_other _ _ (Ne.symm hb)]
    exact Heap.get?_push_of_some _ ho
  · rw [Heap.get?_update_self _ (Heap.get?_push_of_some _ he) rfl]
    rfl
end
/-- what the written part says of an __init__ that says super() -/
structure SupC (P : Program) (K : PySem.W.Frag) (mg : Str → Option Value) (C cc cda : Addr) : Prop where
  T : OexC K C
  cell : ∃ cl cld csl, K.lookup cc = some (⟨cl, cld, .cell (some (.ref C)), csl⟩ : Obj)
  code : ∃ ccl cdd vs ccs file tf, K.lookup cda = some (⟨ccl, cdd, .fields vs, ccs⟩ : Obj) ∧ vs[2]? = some (.str file tf) ∧ ((P.main.file : Str) == file) = true
  top : (P.main.scope.names.lookup ("super" : Str)).isSome = false
  mgs : mg "super" = none
  sup : PySem.W.ks_superIn K C C "__init__" = some (some (.builtin "ValueError.__init__"))
  vE : PySem.W.subIn K (.ref C) (.type "ValueError") = some true
  own : PySem.W.mroIn K C (.ref C) = some true
  any : PySem.W.nsIn K cStatics "thirdparty.any" = some none
theorem fn_super {CX : CXT} {P : Program} {w : World} {K : PySem.W.Frag} {mg : Str → Option Value} {base : Heap} {k : Nat} {f cda cc C : Addr} {name qual self : Str} {params : Arguments} {e : Expr} {es : List Expr} {rest : List Stmt} {p0 p1 apos pos epos : Pos} {scope : Scope} {dV kV doc pm ct oc : Value} {an od : Option Addr}
    {osl : Array (Option Value)} {N ps : List Str} {sp : Sp} {ar : Arg} {pl : Env → Sem Bool}
    (lk : K.lookup f = some ⟨oc, od, .func (PySem.W.ksFn name qual params (.Expr (.Call (.Attribute (.Call (.Name "super" p0) [] [] p1) "__init__" apos) (e :: es) [] pos) epos :: rest) scope dV kV doc pm an (.ref cda) ct cc), osl⟩) (hcd : PySem.W.codeIn K (.ref cda) qual = true)
    (S : NScope N (self :: ps) ["__class__"] scope) (T : SupC P K mg C cc cda) (har : (params.posonlyargs ++ params.args).head? = some ar) (han : ar.arg = self)
    (hks : scope.names.lookup ("super" : Str) = some .globalImplicit) (hN0 : N[0]? = some self)
    (len : ∀ vs H Q E, sp vs H Q E → vs.length = (self :: ps).length)
    (he : ∀ env : Env, starEach (e :: es) env = (false, eval e env) :: starEach es env) (hpl : ∀ env : Env, (backTo pos (starEach es env)).any (·.1) = false)
    (hev : ∀ env : Env, env.scope = scope → eval (.Call (.Attribute (.Call (.Name "super" p0) [] [] p1) "__init__" apos) (e :: es) [] pos) env = (do
      let ov ← attributeBase (.Call (.Name "super" p0) [] [] p1) "__init__" env (eval (.Call (.Name "super" p0) [] [] p1) env)
      standAt apos.atName
      let (f, first) ← holding [ov] (getMethod ov "__init__" (pl env))
      callWith pos f first (backTo pos (starEach (e :: es) env)) []))
    (hsw : ∀ env : Env, swapsWith (.Call (.Attribute (.Call (.Name "super" p0) [] [] p1) "__init__" apos) (e :: es) [] pos) none epos.line env = pure false)
    (hbody : ∀ (A : Around) (outer : List Env) (s : Shared) (H : Hp) (vs : List V) (Q : VK) (E : XK), Room k (A.deeper (PySem.W.ksEnv qual scope s.heap.objs.size f (.ref cda) cc)) → sp vs H Q E →
      ∃ (a : Addr) (ws : List V) (ta : TA) (t : TS), vs = .ref a :: ws ∧ H a = some (exo a C none) ∧
        PA (ncx CX P w K mg base N ⟨name, qual, params, .Expr (.Call (.Attribute (.Call (.Name "super" p0) [] [] p1) "__init__" apos) (e :: es) [] pos) epos :: rest, scope, [("__class__", cc)], cda⟩ f A outer s H E) (e :: es) ta ∧
        PSs (ncx CX P w K mg base N ⟨name, qual, params, .Expr (.Call (.Attribute (.Call (.Name "super" p0) [] [] p1) "__init__" apos) (e :: es) [] pos) epos :: rest, scope, [("__class__", cc)], cda⟩ f A outer s H E) rest t ∧
        ta (startF N vs [none]) H (fun us H1 => us.length ≤ 1000 ∧ H1 a = some (exo a C none) ∧ t { nx := fun _ H' => Q .non H', rt := Q } (startF N vs [none]) H1)) :
    FnOk P w K mg base CX (k + 1) f (PySem.W.ksFn name qual params (.Expr (.Call (.Attribute (.Call (.Name "super" p0) [] [] p1) "__init__" apos) (e :: es) [] pos) epos :: rest) scope dV kV doc pm an (.ref cda) ct cc) (self :: ps) sp := by
  refine ⟨len, fun A outer s H args us vs Q E hr e0 hb r hsp => ?_⟩
  have hl := len _ _ _ _ hsp
  have KX : K.In s.heap := e0.mod.kin.keeps fun b o e => (e0.bs b o e).1
  have lim : s.heap.NoLimit := e0.mod.nolimit.keeps fun b o e => (e0.bs b o e).1
  obtain ⟨cl, cld, csl, hcell⟩ := T.cell
  obtain ⟨ccl, cdd, cvs, ccs, file, tf, hcode, hvs, hfile⟩ := T.code
  have hcc : H cc = none := (e0.bs _ _ (e0.mod.kin _ _ hcell)).2
  have lone : ∀ {y : Str} {c : Addr}, ([("__class__", cc)] : List (Str × Addr)).lookup y = some c → y = ("__class__" : Str) ∧ c = cc := fun {y c} hy => by
    rw [List.lookup] at hy
    split at hy
    · rename_i hb
      cases hy
      exact ⟨beq_iff_eq.mp hb, rfl⟩
    · cases hy
  have CA : CellsAt [("__class__", cc)] ["__class__"] [none] s.heap H := ⟨rfl, fun y c hy => by
      obtain ⟨_, rfl⟩ := lone hy
      exact ⟨hcc, _, _, KX _ _ hcell, rfl⟩, fun x y c hx hy => (lone hx).1.trans (lone hy).1.symm, fun i y hi => by
      cases i with
      | zero =>
        obtain rfl : ("__class__" : Str) = y := Option.some.inj hi
        exact ⟨cc, by simp [List.lookup], fun v hv => by simp at hv⟩
      | succ n => simp at hi⟩
  refine codeAny_call_function hr.depth (KX _ _ lk) rfl S.co S.gen rfl (PySem.W.codeRec_of KX hcd) (hb _ _ _ _ ?_)
  refine wpAny_newFunctionEnv S.nocell (fun ⟨n, _⟩ hy => S.par n (List.of_mem_zip hy).1) (fun h₁ hns hsb => ⟨lim.fresh _ hsb, ?_⟩) S.kind
  refine ks_codeAny_funcAt (env := PySem.W.ksEnv qual scope s.heap.objs.size f (.ref cda) cc) ?_
  have kp : ∀ b o, s.heap.get? b = some o → h₁.get? b = some o := fun b o e => hsb.extBut b o (Nat.ne_of_lt (Heap.lt_size e)) (Heap.get?_push_of_some _ e)
  obtain ⟨a, ws, ta, t, rfl, ha, hA, hR, ht⟩ := hbody A outer s H vs Q E (hr.deeper _) hsp
  have I : Inv (ncx CX P w K mg base N ⟨name, qual, params, .Expr (.Call (.Attribute (.Call (.Name "super" p0) [] [] p1) "__init__" apos) (e :: es) [] pos) epos :: rest, scope, [("__class__", cc)], cda⟩ f A outer s H E) [] (startF N (.ref a :: ws) [none]) H { s with heap := h₁, toks := s.toks + ((self :: ps).zip us).length } := inv_startN S hr.hd e0 hl r CA hns kp
  have hi : interactive (PySem.W.ksEnv qual scope s.heap.objs.size f (.ref cda) cc) = false := by
    unfold interactive
    simp [Env.blockKind, S.kind]
  refine ks_wpAt_execs_cons (ks_wpAt_Expr_any (hi := hi) (hs := hsw _) (ks_wpAt_MethodCall (he := hev _ rfl) ?_))
  have ISA := I
  obtain ⟨nm, q, NS, bs, bm, sn, sub, ab, col, dd, k0, k1, k2, k3, k5, hC, hbm⟩ := T.T.cls
  obtain ⟨t1, hoa⟩ := exo_at I.hok ha
  have hCD : PySem.W.clsIn K C = some { name := nm, bases := bs, mro := .ref C :: bm, ns := NS, qualname := q, hasDict := true, slotNames := sn, subclasses := sub, abstract := ab, collection := col, hasDel := false } := by unfold PySem.W.clsIn; rw [hC] <;> rfl
  have X1 : K.In h₁ := I.kIn
  have hfs : h₁.get? f = _ := X1 _ _ lk
  refine ks_wpAt_super_base (env := PySem.W.ksEnv qual scope s.heap.objs.size f (.ref cda) cc) hks (S.frk _ (by simp)) (by decide) rfl hfs rfl har rfl (X1 _ _ hcode) rfl hvs hfile T.top ?_
  obtain ⟨mb, hb1, hb2⟩ := I.mod.blt
  refine PySem.W.ks_loadName_global S.kind hks (PySem.Calls.loadGlobal_builtin (env := PySem.W.ksEnv qual scope s.heap.objs.size f (.ref cda) cc) (I.mod.glob.keeps I.bk) T.mgs (hb1.keeps I.bk) ((hb2 _ (by decide +kernel)).trans (show bootBuiltins "super" = some (.type "super") by decide +kernel)) ⟨rfl, ?_⟩)
  refine wpAny_loadName_free S.kind (S.frk _ (by simp)) rfl ⟨_, X1 _ _ hcell, rfl⟩ ?_
  obtain ⟨m, hmn, hml⟩ := I.loc
  obtain ⟨u0, ru0, hu0⟩ := hml 0 self (.ref a) hN0 (by simp [startF]) (.inl (S.par self (by simp)))
  obtain rfl : u0 = Value.ref a := ru0
  have hself : m self = some (.ref a) := by
    rcases hu0 with ⟨_, z⟩ | ⟨z, _⟩
    · exact z
    · have z2 : scope.names.lookup self = some .cell ∨ scope.names.lookup self = some .free := z
      rw [S.par self (by simp)] at z2
      rcases z2 with z2 | z2 <;> cases z2
  rw [han]
  refine wpAny_loadName_local S.kind (S.par self (by simp)) hmn hself ?_
  refine ks_wpAny_isType_cls (X1 _ _ hC) rfl ⟨rfl, ?_⟩
  refine ks_wpAny_call_super (X1 _ _ hC) rfl hoa rfl (fun c z => by cases z) (PySem.W.looks_mroIn X1 T.own) (fun h2 hso k2 => ?_)
  have I2 := I.kept (t' := s.toks + ((self :: ps).zip us).length) k2
  have X2 : K.In h2 := I2.kIn
  have hoa2 := k2 _ _ hoa
  have IA : PySem.W.InstAt h2 a _ C none := ⟨hoa2, rfl, rfl, True.intro⟩
  refine PySem.W.kxs_getMethod PySem.W.kxs_ValueError hso (PySem.W.looks_opaque X2 T.any) (l₀ := .ref C :: bm) ?_ rfl X2 ?_ (IA.type.andThen (PySem.W.looks_subIn X2 T.vE)) (PySem.W.ks_ne X2 IA hCD) (by decide) ?_
  · exact fun A Q E s k q => wpAny_bind ((PySem.W.looks_clsIn X2 hCD) A _ E s k (wpAny_pure q))
  · have z := T.sup
    unfold PySem.W.ks_superIn at z
    rw [hCD] at z
    exact z
  have k3 : ∀ b o, h2.get? b = some o → (h2.push (PySem.W.kxs_mw "ValueError.__init__" a)).get? b = some o := fun b o e => Heap.get?_push_of_some _ e
  have I3 := I2.kept (t' := s.toks + ((self :: ps).zip us).length + 1) k3
  have hu3 : (h2.push (PySem.W.kxs_mw "ValueError.__init__" a)).get? h2.objs.size = some (PySem.W.kxs_mw "ValueError.__init__" a) := Heap.get?_push_at rfl rfl
  have nu : h2.objs.size ≠ s.heap.objs.size := fun z => absurd (show s.heap.objs.size < h2.objs.size from I2.lt) (by omega)
  have I4 : Inv _ [(h2.objs.size, PySem.W.kxs_mw "ValueError.__init__" a)] _ _ _ := I3.pins_of fun p hp => by
    obtain rfl := List.mem_singleton.mp hp
    exact ⟨hu3, I2.hok.fresh (Nat.le_refl _), nu, I2.nofs (Nat.le_refl _), fun v z => by cases z⟩
  have he' := he (PySem.W.ksEnv qual scope s.heap.objs.size f (.ref cda) cc)
  have tA : wpAny (model P w) (A.deeper (PySem.W.ksEnv qual scope s.heap.objs.size f (.ref cda) cc)) (spliced (backTo pos (starEach (e :: es) (PySem.W.ksEnv qual scope s.heap.objs.size f (.ref cda) cc)))) _ _ _ := hA.run pos [(h2.objs.size, PySem.W.kxs_mw "ValueError.__init__" a)] _ _ _ _ I4 ht
  refine PySem.W.kxs_callWith (i := "ValueError.__init__") (x := a) (by rw [he']; show (false || (backTo pos (starEach es _)).any (·.1)) = false; rw [hpl]; rfl) ?_
  rw [he']
  refine PySem.Calls.evalArgs_plain ?_
  rw [he'] at tA
  refine thn tA fun us1 s1 ⟨vs1, H1, I5, r5, hz, ea, hq⟩ => ⟨(I5.pin (h2.objs.size, PySem.W.kxs_mw "ValueError.__init__" a) (by simp)).1, ?_⟩
  obtain ⟨t2, ho2⟩ := exo_at I5.hok ea
  have hlen : us1.length ≤ sizeLine := by
    rw [← Paired.length r5, sizeLine_eq]
    omega
  obtain ⟨h5, g5, d5, t5, os5⟩ := s1
  refine mw_call (I5.kIn _ _ hC) ho2 (I5.pin (h2.objs.size, PySem.W.kxs_mw "ValueError.__init__" a) (by simp)).1 hlen fun h6 t6 k6 hx6 => ?_
  have J := I5.write (t' := t5) (x := a) (e := a) (o := exo a C none) (by rw [ea]; exact True.intro) (.inl rfl) k6 ⟨_, hx6⟩ (exo_ok hx6)
  have eu : upd H1 a (exo a C none) = H1 := by
    funext b
    by_cases hb : b = a
    · rw [hb, upd_same, ea]
    · rw [upd_ne hb]
  rw [eu] at J
  refine wpAt_of_wpAny ?_
  refine wpAny_mono (hR.run _ _ _ _ _ J hq) (fun fl s' hs => ?_) fun e s' hs => hs
  have fin : ∀ {σ' : L2.St} {H' : Hp} {v : V} {u : Value}, Inv (ncx CX P w K mg base N ⟨name, qual, params, .Expr (.Call (.Attribute (.Call (.Name "super" p0) [] [] p1) "__init__" apos) (e :: es) [] pos) epos :: rest, scope, [("__class__", cc)], cda⟩ f A outer s H E) [(h2.objs.size, PySem.W.kxs_mw "ValueError.__init__" a)] σ' H' s' → L2.RelV v u → Q v H' → CE outer P w H s Q u s' :=
    fun {σ' H' v u} J rv q => ⟨v, H', J.os, J.bare, J.base, J.hok, rv, q⟩
  cases fl with
  | ret u =>
    obtain ⟨v, σ', H', J, rv, q⟩ := hs
    exact fin J rv q
  | next =>
    obtain ⟨σ', H', J, q⟩ := hs
    exact fin (v := V.non) (u := Value.none) J rfl q
  | brk =>
    obtain ⟨_, _, _, q⟩ := hs
    exact False.elim q
  | cont =>
    obtain ⟨_, _, _, q⟩ := hs
    exact False.elim q
end Wv
end WvS_
section Wv0_
set_option Elab.async false
set_option linter.all false
set_option maxRecDepth 100000
set_option maxHeartbeats 4000000
namespace Wv
open PySem PySem.Spec L2
def top (i : Nat) : Stmt := PySem.Challenge.pw_watervalves_k03_canonical_plans.main.body.getD i (.Pass ⟨0, 0, 0, 0⟩)
abbrev s__is_number : Stmt := (top 30)
abbrev s__word_kind : Stmt := (top 29)
abbrev s__run_of : Stmt := (top 28)
abbrev s_law : Stmt := (top 57)
abbrev s__limited : Stmt := (top 16)
abbrev s_Checker___init__ : Stmt := (inClass (top 14) 0)
abbrev s_Checker_check_known : Stmt := (inClass (top 14) 6)
abbrev s_Checker_check_valves : Stmt := (inClass (top 14) 2)
abbrev s_Checker_check_start : Stmt := (inClass (top 14) 3)
abbrev s_Checker_check_pause : Stmt := (inClass (top 14) 4)
abbrev s_Checker_check_rank : Stmt := (inClass (top 14) 5)
abbrev s_Checker_check : Stmt := (inClass (top 14) 1)
abbrev s_check_statements : Stmt := (top 15)
abbrev s_SyntaxFault : Stmt := (inClass (top 6) 0)
abbrev s_CheckFault : Stmt := (inClass (top 7) 0)
abbrev s__law_equal : Stmt := (top 56)
abbrev s__starts : Stmt := (top 43)
abbrev s__dry : Stmt := (top 44)
abbrev s__rank : Stmt := (top 42)
def lamQ : Str := ("Garden.__init__" : Str) ++ (".<locals>." : Str) ++ ("<lambda>" : Str)
abbrev s_Garden___init__ : Stmt := (inClass (top 38) 0)
abbrev s__build_garden : Stmt := (top 41)
abbrev s_read_plans : Stmt := (top 40)
abbrev s_read_plan : Stmt := (top 39)
abbrev s__line : Stmt := (top 3)
abbrev s_dry_runs : Stmt := (top 2)
abbrev s_plan_text : Stmt := (top 1)
abbrev s_format_plan : Stmt := (top 46)
abbrev s_Token___init__ : Stmt := (inClass (top 23) 0)
abbrev s__token_at : Stmt := (top 27)
abbrev s__row_tokens : Stmt := (top 26)
abbrev s_count_lines : Stmt := (top 25)
abbrev s_read_tokens : Stmt := (top 24)
abbrev s_Statement___init__ : Stmt := (inClass (top 34) 0)
abbrev s_Parser_ahead : Stmt := (inClass (top 35) 1)
abbrev s_Parser_refuse : Stmt := (inClass (top 35) 2)
abbrev s_Parser_take : Stmt := (inClass (top 35) 3)
abbrev s_Parser_take_names : Stmt := (inClass (top 35) 4)
abbrev s_Parser_take_statement : Stmt := (inClass (top 35) 5)
abbrev s_Parser___init__ : Stmt := (inClass (top 35) 0)
abbrev s_parse_plan : Stmt := (top 36)
abbrev s__law_shuffled : Stmt := (top 51)
abbrev s__law_runs : Stmt := (top 53)
abbrev s__law_text : Stmt := (top 54)
abbrev s__law_loosened : Stmt := (top 55)
abbrev s__law_wide : Stmt := (top 52)
abbrev s_valves : Stmt := (top 47)
abbrev s__law_below : Stmt := (top 50)
abbrev s__law_random : Stmt := (top 49)
end Wv
end Wv0_
section WvL1_
set_option Elab.async false
set_option linter.all false
set_option maxRecDepth 100000
set_option maxHeartbeats 4000000
namespace Wv
open PySem L2
open SX (S S_len S_inj)
local macro_rules | `(tactic| walk_at "rd") => `(tactic| (try simp only [tVar, tC, tB, tAnd, tOr, tNot, tAndV, tOrV, tNotV, tIf, tNext, tSeq, tBreak, tCont, tDrop, tRet, tRetN, tIfS, gName, gNil, gCons, gTup, gSub, tAsg, tPar, tAug, tOp, tUn, rI, rI0, rU, rEq, rNe, tTest, tFld, tNil, tCons, tTup, tLst, tCB, tNoPart, tPart, tSl, rIxL, rIxT, rIxS, rSlL, rSlS, tBM0, tBM, rAppend, rExtend, rCat, rRep, rSetL, tM0, tM1, tCall, tMeth, tMake, sFld, sFldAug, rAdd, rSub, ipI, tBM0,
  scal_ss, scal_ii, scal_bb, scal_ns, scal_sn, scal_nn, tyV_str, L2.start, List.map_cons, List.map_nil, List.length_cons, List.length_nil, List.replicate, List.cons_append, List.nil_append, List.append_nil, List.getElem?_cons_zero, List.getElem?_cons_succ, List.set_cons_zero, List.set_cons_succ, Nat.reduceAdd, Nat.reduceSub, Nat.zero_add, Nat.sub_self, Nat.add_one_sub_one,
  Option.some.injEq, exists_eq_left, exists_eq_left', exists_eq', exists_eq, V.int.injEq, V.str.injEq, V.ref.injEq, V.bl.injEq, reduceCtorEq, List.cons.injEq, and_true, true_and, exists_and_left, exists_and_right, and_assoc, decide_true, decide_false, if_true, if_false, ite_true, ite_false, Bool.false_eq_true, Bool.true_eq_false, eq_self_iff_true, cx_K, nox_K, tMkSyn, tMkChk, tYes, bne, ne_eq, not_false_eq_true, not_true_eq_false, Bool.not_true, Bool.not_false, decide_eq_true_eq, Bool.not_eq_true', decide_eq_false_iff_not]))
/-! ### facts of the top -/
structure TopF (w : World) (K : PySem.W.Frag) (mg : Str → Option Value) where
  z_len : mg "len" = none
  z_int : mg "int" = none
  z_str : mg "str" = none
  z_list : mg "list" = none
  z_range : mg "range" = none
  z_enumerate : mg "enumerate" = none
  z_isinstance : mg "isinstance" = none
  z_sorted : mg "sorted" = none
  z_abs : mg "abs" = none
  z_max : mg "max" = none
  z_min : mg "min" = none
  z_tuple : mg "tuple" = none
  z_zip : mg "zip" = none
  z_sum : mg "sum" = none
  z_divmod : mg "divmod" = none
  z_any : mg "any" = none
  z_all : mg "all" = none
  z_bool : mg "bool" = none
  g_MOST_TICKS : ∃ t, mg "MOST_TICKS" = some (.int 60 t)
  g_MOST_OPEN : ∃ t, mg "MOST_OPEN" = some (.int 9 t)
  g_MOST_VALVES : ∃ t, mg "MOST_VALVES" = some (.int 8 t)
  g_MOST_WATER : ∃ t, mg "MOST_WATER" = some (.int 30 t)
  g_MOST_STARTS : ∃ t, mg "MOST_STARTS" = some (.int 20 t)
  g_LETTERS : ∃ t, mg "LETTERS" = some (.str (S letters) t)
  g_DIGITS : ∃ t, mg "DIGITS" = some (.str (S digits) t)
  g_MOST_LETTERS : ∃ t, mg "MOST_LETTERS" = some (.int 8 t)
  g_MOST_DIGITS : ∃ t, mg "MOST_DIGITS" = some (.int 2 t)
  a_KEYWORDS : Addr
  g_KEYWORDS : mg "KEYWORDS" = some (.ref a_KEYWORDS)
  a_HEAD : Addr
  g_HEAD : mg "HEAD" = some (.ref a_HEAD)
  t_HEAD : ∀ H, SqT K H a_HEAD (headL.map fun k => V.str (S k))
  a_FORMS : Addr
  g_FORMS : mg "FORMS" = some (.ref a_FORMS)
  es : Array DictEntry
  en : Nat
  kd : KDict K w a_FORMS es en
  f_get : ∀ k ps, forms k = some ps → ∃ a, PySem.W.nsIn K a_FORMS (S k) = some (some (.ref a)) ∧ ∀ H, SqT K H a (ps.map fun k => V.str (S k))
  f_miss : ∀ k ∈ kinds, forms k = none → PySem.W.nsIn K a_FORMS (S k) = some none
  t_KEYWORDS : ∀ H, SqT K H a_KEYWORDS (keywords.map fun k => V.str (S k))
theorem str_empty : ("" : Str) = S [] := by decide +kernel
theorem str_0 : ("0" : Str) = S [48] := by decide +kernel
theorem str_name : ("name" : Str) = S nameK := by decide +kernel
theorem str_number : ("number" : Str) = S numberK := by decide +kernel
theorem str_semi : (";" : Str) = S [59] := by decide +kernel
theorem str_blank : (" " : Str) = S [32] := by decide +kernel
theorem str_lf : ("\n" : Str) = S [10] := by decide +kernel
section
variable {P : Program} {w : World} {K : PySem.W.Frag} {mg : Str → Option Value} {base : Heap}
theorem sc__is_number : FnScope ["digits"] ["digits"] (defScope s__is_number) := ⟨rfl, rfl, rfl, by decide +kernel, rfl, by decide +kernel, by decide +kernel⟩
def sp__is_number : Sp := fun vs H Q _ => ∃ d : List Nat, vs = [.str (S d)] ∧ d.length ≤ 100000 ∧ Q (.bl (isNumber d)) H
theorem ok__is_number {f : Addr} {fd : FuncData} (F : Fun K "_is_number" "_is_number" s__is_number f fd) (T : TopF w K mg) : FnOk P w K mg base CX0 1 f fd ["digits"] sp__is_number := by
  refine F.ok sc__is_number (fun vs H Q E h => ?_) (fun cdv A outer s H vs Q E hr h => ?_)
  · obtain ⟨d, rfl, _⟩ := h
    rfl
  · obtain ⟨d, rfl, hd, k⟩ := h
    obtain ⟨t2, g2⟩ := T.g_MOST_DIGITS
    refine ⟨_, (pss_cons (ps_if (PW.pt (pw_or (pt_cmpR op_eq (pv 0) pe_str (nomark _)) (pw_or1 (pt_cmpR op_gt (pe_callB call_len_str (by rfl) T.z_len (by decide +kernel) (pa_cons (pv 0) pa_nil)) (pe_glob (v := .int 2) rfl T.g_MOST_DIGITS.choose_spec ⟨_, rfl⟩) (nomark _))))) (pss_one (ps_ret pe_bl)) pss_nil)
      (pss_one (ps_ret (pe_or (pe_cmpR op_eq (pv 0) pe_str (nomark _)) (pe_one (pe_cmpR op_ne (pe_ix ix_str (pv 0) pe_int (fun _ _ => rfl)) pe_str (nomark _))))))), ?_⟩
    walk_at "rd"
    simp only [str_empty, str_0, S_eq, S_len, line_of hd, true_and, decide_eq_true_eq]
    unfold isNumber at k
    by_cases h0 : d = []
    · simpa [h0] using k
    · by_cases h2 : 2 < d.length
      · have : (2 : Int) < (d.length : Nat) := by omega
        simp only [h0, h2, this, if_true, if_false, or_true] at k ⊢
        exact k
      · have : ¬ (2 : Int) < (d.length : Nat) := by omega
        simp only [h0, h2, this, if_true, if_false, or_self] at k ⊢
        by_cases h48 : d = [48]
        · simpa [h48] using k
        · cases d with
          | nil => exact absurd rfl h0
          | cons c r =>
          simp only [h48, if_false, decide_false, Bool.false_or] at k ⊢
          refine ⟨c, atI_nat (j := 0) rfl, ?_⟩
          have e : ((c :: r).head? != some 48) = !decide ([c] = [48]) := by
            by_cases hc : c = 48 <;> simp [hc]
          rw [e] at k
          exact k
theorem sc__word_kind : FnScope ["word"] ["word"] (defScope s__word_kind) := ⟨rfl, rfl, rfl, by decide +kernel, rfl, by decide +kernel, by decide +kernel⟩
def sp__word_kind : Sp := fun vs H Q _ => ∃ d : List Nat, vs = [.str (S d)] ∧ Q (.str (S (wordKind d))) H
theorem inV_strs (d : List Nat) (l : List (List Nat)) : inV (.str (S d)) (l.map fun k => V.str (S k)) = decide (d ∈ l) := by
  unfold inV
  induction l with
  | nil => simp
  | cons a l ih =>
    rw [List.map_cons, List.any_cons, ih]
    have : eqV (.str (S a)) (.str (S d)) = decide (d = a) := by
      show (S a == S d) = _
      rw [SX.S_beq_eq]
      by_cases h : a = d
      · simp [h]
      · have : d ≠ a := fun e => h e.symm
        simp [h, this]
    rw [this]
    by_cases h : d = a <;> simp [h]
theorem flat_strs (l : List (List Nat)) : (l.map fun k => V.str (S k)).all flatV = true := by
  simp [flatV]
theorem ok__word_kind {f : Addr} {fd : FuncData} (F : Fun K "_word_kind" "_word_kind" s__word_kind f fd) (T : TopF w K mg) : FnOk P w K mg base CX0 1 f fd ["word"] sp__word_kind := by
  refine F.ok sc__word_kind (fun vs H Q E h => ?_) (fun cdv A outer s H vs Q E hr h => ?_)
  · obtain ⟨d, rfl, _⟩ := h
    rfl
  · obtain ⟨d, rfl, k⟩ := h
    refine ⟨_, (pss_cons (ps_if (pt_cmpR op_in_seq (pv 0) (pe_glob (v := .ref T.a_KEYWORDS) rfl T.g_KEYWORDS rfl) (by rfl)) (pss_one (ps_ret (pv 0))) pss_nil)
      (pss_one (ps_ret pe_str))), ?_⟩
    walk_at "rd"
    refine ⟨T.a_KEYWORDS, _, rfl, .inr (T.t_KEYWORDS H), rfl, flat_strs _, _, rfl, ?_⟩
    simp only [inV_strs, str_name, if_false, Bool.false_eq_true]
    unfold wordKind at k
    by_cases h : d ∈ keywords
    · simpa [h] using k
    · simpa [h] using k
theorem sc__run_of : FnScope ["allowed", "row", "column", "end"] ["allowed", "row", "column"] (defScope s__run_of) := ⟨rfl, rfl, rfl, by decide +kernel, rfl, by decide +kernel, by decide +kernel⟩
def sp__run_of : Sp := fun vs H Q _ => ∃ (al row : List Nat) (c : Nat), vs = [.str (S al), .str (S row), .int (c : Nat)] ∧ c ≤ row.length ∧ row.length ≤ 100000 ∧ Q (.str (S (run al row c))) H
theorem ok__run_of {f : Addr} {fd : FuncData} (F : Fun K "_run_of" "_run_of" s__run_of f fd) (T : TopF w K mg) : FnOk P w K mg base CX0 1 f fd ["allowed", "row", "column"] sp__run_of := by
  refine F.ok sc__run_of (fun vs H Q E h => ?_) (fun cdv A outer s H vs Q E hr h => ?_)
  · obtain ⟨al, row, c, rfl, _⟩ := h
    rfl
  · obtain ⟨al, row, c, rfl, hc, hl, k⟩ := h
    refine ⟨_, (pss_cons (ps_set (i := 3) sc__run_of.nd rfl (Or.inl rfl) (pv 2))
      (pss_cons (ps_while PassesOwn.never (PW.pt (pw_and (pt_cmpR op_lt (pv 3) (pe_callB call_len_str (by rfl) T.z_len (by decide +kernel) (pa_cons (pv 1) pa_nil)) (nomark _)) (pw_and1 (pt_cmpR op_in_sign (pe_ix ix_str (pv 1) (pv 3) (fun _ _ => rfl)) (pv 0) (by rfl))))) (pss_one (ps_aug (i := 3) sc__run_of.nd rfl (Or.inl rfl) pe_int ip_add)))
      (pss_one (ps_ret (pe_slice sl_str (pv 1) (po_some (pv 2)) (po_some (pv 3))))))), ?_⟩
    walk_at "rd"
    refine ⟨fun m σ H' => H' = H ∧ ∃ e : Nat, σ = [some (.str (S al)), some (.str (S row)), some (.int (c : Nat)), some (.int (e : Nat))] ∧ m = row.length - e ∧ c ≤ e ∧ e ≤ row.length ∧ run al row c = (row.drop c).take (e - c) ++ run al row e,
      ⟨_, rfl, c, rfl, rfl, Nat.le_refl _, hc, by simp⟩, ?_⟩
    rintro m σ H' ⟨rfl, e, rfl, rfl, h1, h2, h3⟩
    walk_at "rd"
    simp only [S_len, line_of hl, true_and, decide_eq_true_eq]
    by_cases he : (e : Int) < (row.length : Nat)
    · have he' : e < row.length := by omega
      rw [if_pos he]
      refine ⟨row[e], atI_nat (j := e) (by simp [he']), ?_⟩
      have hd : row.drop e = row[e] :: row.drop (e + 1) := List.drop_eq_getElem_cons he'
      have st : (row.drop c).take (e - c) ++ [row[e]] = (row.drop c).take (e + 1 - c) := by
        have e1 : e + 1 - c = (e - c) + 1 := by omega
        rw [e1, List.take_add_one]
        have : (row.drop c)[e - c]? = some row[e] := by
          rw [List.getElem?_drop]
          rw [show c + (e - c) = e by omega]
          simp [he']
        rw [this]
        rfl
      by_cases hm : row[e] ∈ al
      · have hr' : run al row e = row[e] :: run al row (e + 1) := by
          unfold run
          rw [hd, List.takeWhile_cons]
          simp [hm]
        refine ⟨row[e], rfl, ?_⟩
        rw [if_pos hm]
        refine ⟨_, fun _ _ z => z, row.length - (e + 1), by omega, rfl, e + 1, by simp, rfl, by omega, by omega, ?_⟩
        rw [h3, hr', ← st, List.append_assoc]
        rfl
      · have hr' : run al row e = [] := by
          unfold run
          rw [hd, List.takeWhile_cons]
          simp [hm]
        rw [h3, hr', List.append_nil] at k
        refine ⟨row[e], rfl, ?_⟩
        rw [if_neg hm, cut_nat h1 h2]
        exact k
    · rw [if_neg he]
      have he' : e = row.length := by omega
      have hr' : run al row e = [] := by
        unfold run
        rw [he', List.drop_length]
        rfl
      rw [h3, hr', List.append_nil] at k
      rw [cut_nat h1 h2]
      exact k
end

end Wv
end WvL1_
section WvE_
set_option Elab.async false
set_option linter.all false
set_option maxRecDepth 100000
set_option maxHeartbeats 4000000
namespace Wv
open PySem L2
open SX (S S_len S_inj)
local macro_rules | `(tactic| walk_at "rd") => `(tactic| (try simp only [tVar, tC, tB, tAnd, tOr, tNot, tAndV, tOrV, tNotV, tIf, tNext, tSeq, tBreak, tCont, tDrop, tRet, tRetN, tIfS, gName, gNil, gCons, gTup, gSub, tAsg, tPar, tAug, tOp, tUn, rI, rI0, rU, rEq, rNe, tTest, tFld, tNil, tCons, tTup, tLst, tCB, tNoPart, tPart, tSl, rIxL, rIxT, rIxS, rSlL, rSlS, tBM0, tBM, rAppend, rExtend, rCat, rRep, rSetL, tM0, tM1, tCall, tMeth, tMake, sFld, sFldAug, rAdd, rSub, ipI, tBM0,
  scal_ss, scal_ii, scal_bb, scal_ns, scal_sn, scal_nn, tyV_str, L2.start, List.map_cons, List.map_nil, List.length_cons, List.length_nil, List.replicate, List.cons_append, List.nil_append, List.append_nil, List.getElem?_cons_zero, List.getElem?_cons_succ, List.set_cons_zero, List.set_cons_succ, Nat.reduceAdd, Nat.reduceSub, Nat.zero_add, Nat.sub_self, Nat.add_one_sub_one,
  Option.some.injEq, exists_eq_left, exists_eq_left', exists_eq', exists_eq, V.int.injEq, V.str.injEq, V.ref.injEq, V.bl.injEq, reduceCtorEq, List.cons.injEq, and_true, true_and, exists_and_left, exists_and_right, and_assoc, decide_true, decide_false, if_true, if_false, ite_true, ite_false, Bool.false_eq_true, Bool.true_eq_false, eq_self_iff_true, cx_K, nox_K, tMkSyn, tMkChk, tYes, bne, ne_eq, not_false_eq_true, not_true_eq_false, Bool.not_true, Bool.not_false, decide_eq_true_eq, Bool.not_eq_true', decide_eq_false_iff_not]))
open PySem.Spec PyProof.Rows NdefX
/-! ### the package's errors that have fields -/
/-- what the written part says of an own exception with its own __init__ -/
structure CExc (P : Program) (K : PySem.W.Frag) (mg : Str → Option Value) (x qual : Str) (st : Stmt) (ps : List Str) (C f cc cda : Addr) (fd : FuncData) : Prop where
  S : SupC P K mg C cc cda
  iC : PySem.W.findIn K (.ref C) "__init__" = some (some (.ref f))
  tI : PySem.W.typeIn K (.ref f) = some (.type "function")
  fn : ∃ oc od dV kV doc pm an ct osl, fd = PySem.W.ksFn "__init__" qual (defArgs st) (defBody st) (defScope st) dV kV doc pm an (.ref cda) ct cc ∧ K.lookup f = some (⟨oc, od, .func fd, osl⟩ : Obj) ∧ PySem.W.codeIn K (.ref cda) qual = true
  b : Binds K fd ps []
  mgx : mg x = some (.ref C)
structure TErr (P : Program) (w : World) (K : PySem.W.Frag) (mg : Str → Option Value) (base : Heap) (CS CC : Addr) where
  fS : Addr
  ccS : Addr
  cdS : Addr
  fdS : FuncData
  fC : Addr
  ccC : Addr
  cdC : Addr
  fdC : FuncData
  syn : CExc P K mg "SyntaxFault" "SyntaxFault.__init__" s_SyntaxFault ["self", "line", "column"] CS fS ccS cdS fdS
  chk : CExc P K mg "CheckFault" "CheckFault.__init__" s_CheckFault ["self", "reason", "line", "column"] CC fC ccC cdC fdC
  s1 : PySem.W.findIn K (.ref CS) "line" = some none
  s2 : PySem.W.findIn K (.ref CS) "column" = some none
  c1 : PySem.W.findIn K (.ref CC) "reason" = some none
  c2 : PySem.W.findIn K (.ref CC) "line" = some none
  c3 : PySem.W.findIn K (.ref CC) "column" = some none
theorem toS_le {n : Nat} (h : n ≤ 1000000) : (toString ((n : Nat) : Int) : Str).length ≤ 7 := toString_length_le (by omega) (by decide) (by omega)
set_option exponentiation.threshold 2000 in
theorem log_le {n : Nat} (h : n ≤ 1000000) : ((n : Nat) : Int).natAbs.log2 < 1920 := by
  rw [Int.natAbs_natCast]
  by_cases z : n = 0
  · subst z
    decide +kernel
  · exact (Nat.log2_lt z).mpr (Nat.lt_of_lt_of_le (show n < 2 ^ 20 by omega) (Nat.pow_le_pow_right (by decide) (by decide)))
theorem le_one {α : Type} {x : α} : ([x] : List α).length ≤ 1000 := by simp
theorem le_fs {α : Type} {x : α} : ([x] : List α).length ≤ 900 := by simp
/-- arguments whose end may be weakened -/
def tUp (ta : TA) : TA := fun σ H Q => ∃ Q0, ta σ H Q0 ∧ ∀ vs H1, Q0 vs H1 → Q vs H1
theorem pa_up {X : Cx} {es : List Expr} {ta : TA} (h : PA X es ta) : PA X es (tUp ta) := ⟨fun pos pins s σ H Q I ⟨Q0, q, k⟩ => thn (h.run pos pins s σ H Q0 I q) fun us s' ⟨vs, H', I', r, q'⟩ => ⟨vs, H', I', r, k _ _ q'⟩⟩
theorem app_len {a b : Str} : (a ++ b).length = a.length + b.length := PySem.Str.length_append a b
section
variable {P : Program} {w : World} {K : PySem.W.Frag} {mg : Str → Option Value} {base : Heap} {CS CC : Addr}
def sp_syn (C : Addr) : Sp := fun vs H Q _ => ∃ (a : Addr) (i j : Nat), vs = [.ref a, .int (i : Nat), .int (j : Nat)] ∧ i ≤ 1000000 ∧ j ≤ 1000000 ∧ H a = some (exo a C none) ∧
  ∀ dx, H dx = none → dx ≠ a → Q .non (upd (upd (upd H dx (exd dx [("line", .int (i : Nat))])) a (exo a C (some dx))) dx (exd dx [("column", .int (j : Nat)), ("line", .int (i : Nat))]))
theorem ok_syn (T : TErr P w K mg base CS CC) : FnOk P w K mg base CX0 1 T.fS T.fdS ["self", "line", "column"] (sp_syn CS) := by
  obtain ⟨oc, od, dV, kV, doc, pm, an, ct, osl, hfd, lk, hcd⟩ := T.syn.fn
  rw [hfd] at lk ⊢
  refine fn_super (N := ["self", "line", "column", "__class__"]) lk hcd (nscope_by (by decide +kernel)) T.syn.S rfl rfl (by decide +kernel) rfl (fun vs H Q E h => ?_) (fun _ => rfl) (fun _ => rfl) (fun _ _ => rfl) (fun _ => rfl) (fun A outer s H vs Q E hr h => ?_)
  · obtain ⟨a, i, j, rfl, _⟩ := h
    rfl
  · obtain ⟨a, i, j, rfl, hi, hj, ha, k⟩ := h
    refine ⟨a, _, _, _, rfl, ha, pa_cons (pe_joined (.cons pe_str (.cons (pe_fmt (pv 1)) (.cons pe_str (.cons (pe_fmt (pv 2)) .nil))))) pa_nil, pss_cons (ps_ost (pv 0) (pv 1)) (pss_one (ps_ost (pv 0) (pv 2))), ?_⟩
    have l1 : ("syntax fault in line " : Str).length ≤ 100 := by decide +kernel
    have l2 : (", column " : Str).length ≤ 100 := by decide +kernel
    have l3 := toS_le hi
    have l4 := toS_le hj
    have l0 : Str.empty.length = 0 := rfl
    refine ⟨_, rfl, by simp only [PySem.Str.length_append, sizeLine_eq]; omega, _, rfl, .inr ⟨_, rfl, log_le hi, _, rfl, by simp only [PySem.Str.length_append, sizeLine_eq]; omega, _, rfl, by simp only [PySem.Str.length_append, sizeLine_eq]; omega, _, rfl, .inr ⟨_, rfl, log_le hj, _, rfl, by simp only [PySem.Str.length_append, sizeLine_eq]; omega, le_one, ha, ?_⟩⟩⟩
    refine ⟨_, rfl, _, rfl, a, CS, rfl, T.syn.S.T, T.s1, .inl ⟨ha, fun dx hdx hda => ?_⟩⟩
    refine ⟨_, rfl, _, rfl, a, CS, rfl, T.syn.S.T, T.s2, .inr ⟨dx, _, upd_same, (upd_ne hda).trans upd_same, le_fs, k dx hdx hda⟩⟩
def sp_chk (C : Addr) : Sp := fun vs H Q _ => ∃ (a : Addr) (r : List Nat) (i j : Nat), vs = [.ref a, .str (S r), .int (i : Nat), .int (j : Nat)] ∧ r.length ≤ 100 ∧ i ≤ 1000000 ∧ j ≤ 1000000 ∧ H a = some (exo a C none) ∧
  ∀ dx, H dx = none → dx ≠ a → Q .non (upd (upd (upd (upd H dx (exd dx [("reason", .str (S r))])) a (exo a C (some dx))) dx (exd dx [("line", .int (i : Nat)), ("reason", .str (S r))])) dx (exd dx [("column", .int (j : Nat)), ("line", .int (i : Nat)), ("reason", .str (S r))]))
theorem ok_chk (T : TErr P w K mg base CS CC) : FnOk P w K mg base CX0 1 T.fC T.fdC ["self", "reason", "line", "column"] (sp_chk CC) := by
  obtain ⟨oc, od, dV, kV, doc, pm, an, ct, osl, hfd, lk, hcd⟩ := T.chk.fn
  rw [hfd] at lk ⊢
  refine fn_super (N := ["self", "reason", "line", "column", "__class__"]) lk hcd (nscope_by (by decide +kernel)) T.chk.S rfl rfl (by decide +kernel) rfl (fun vs H Q E h => ?_) (fun _ => rfl) (fun _ => rfl) (fun _ _ => rfl) (fun _ => rfl) (fun A outer s H vs Q E hr h => ?_)
  · obtain ⟨a, r, i, j, rfl, _⟩ := h
    rfl
  · obtain ⟨a, r, i, j, rfl, hr, hi, hj, ha, k⟩ := h
    refine ⟨a, _, _, _, rfl, ha, pa_cons (pe_joined (.cons pe_str (.cons (pe_fmt (pv 1)) (.cons pe_str (.cons (pe_fmt (pv 2)) (.cons pe_str (.cons (pe_fmt (pv 3)) .nil))))))) pa_nil, pss_cons (ps_ost (pv 0) (pv 1)) (pss_cons (ps_ost (pv 0) (pv 2)) (pss_one (ps_ost (pv 0) (pv 3)))), ?_⟩
    have l1 : ("fault '" : Str).length ≤ 100 := by decide +kernel
    have l5 : ("' in line " : Str).length ≤ 100 := by decide +kernel
    have l2 : (", column " : Str).length ≤ 100 := by decide +kernel
    have l3 := toS_le hi
    have l4 := toS_le hj
    have l6 : (S r).length = r.length := S_len ..
    have l0 : Str.empty.length = 0 := rfl
    refine ⟨_, rfl, by simp only [PySem.Str.length_append, sizeLine_eq]; omega, _, rfl, .inl ⟨_, rfl, by rw [sizeLine_eq]; omega, _, rfl, by simp only [PySem.Str.length_append, sizeLine_eq]; omega, _, rfl, by simp only [PySem.Str.length_append, sizeLine_eq]; omega, _, rfl, .inr ⟨_, rfl, log_le hi, _, rfl, by simp only [PySem.Str.length_append, sizeLine_eq]; omega, _, rfl, by simp only [PySem.Str.length_append, sizeLine_eq]; omega, _, rfl, .inr ⟨_, rfl, log_le hj, _, rfl, by simp only [PySem.Str.length_append, sizeLine_eq]; omega, le_one, ha, ?_⟩⟩⟩⟩
    refine ⟨_, rfl, _, rfl, a, CC, rfl, T.chk.S.T, T.c1, .inl ⟨ha, fun dx hdx hda => ?_⟩⟩
    refine ⟨_, rfl, _, rfl, a, CC, rfl, T.chk.S.T, T.c2, .inr ⟨dx, _, upd_same, (upd_ne hda).trans upd_same, le_fs, ?_⟩⟩
    refine ⟨_, rfl, _, rfl, a, CC, rfl, T.chk.S.T, T.c3, .inr ⟨dx, _, (upd_ne (Ne.symm hda)).trans upd_same, upd_same, by simp, k dx hdx hda⟩⟩
/-- C(..), the end's map -/
theorem mk_same {H1 H2 : Hp} {e d : Addr} {o : HO} (he : H1 e = none) (hd : H1 d = none) (k : ∀ b, b ≠ e → b ≠ d → H2 b = H1 b) : Same H1 (upd (del H2 e) d o) := fun b u hb => by
  have h1 : b ≠ e := ne_of_none hb he
  have h2 : b ≠ d := ne_of_none hb hd
  rw [upd_ne h2, del_ne h1, k b h1 h2]
  exact hb
theorem pmk_syn {X : Cx} {a b : Expr} {ta : TA} {p pos : Pos} (T : TErr X.prog X.w X.K X.mg X.base CS CC) (hr : Room 4 X.A) (ha : PA X [a, b] ta) (hg : Gl X "SyntaxFault" := by rfl)
    (he : starEach (a :: [b]) X.env = (false, eval a X.env) :: starEach [b] X.env := by rfl) (hpl : (backTo pos (starEach [b] X.env)).any (·.1) = false := by rfl) :
    PMk X (.Call (.Name "SyntaxFault" p) [a, b] [] pos) (tMkSyn CS ta) := fun pins s σ H Q I h => by
  refine pmk_oex (dvs := []) T.syn.S.T T.syn.iC T.syn.tI (ok_syn T) (hr.mono (by decide)) T.syn.b .nil pass0 hg T.syn.mgx (pa_up ha) (by decide) he hpl pins s σ H Q I ?_
  refine ⟨_, h, fun vs H1 ⟨i, j, e, hi, hj, q⟩ => ?_⟩
  subst e
  refine ⟨by simp, fun e he => ⟨e, i, j, rfl, hi, hj, upd_same, fun dx hdx hde => ?_⟩⟩
  rw [upd_ne hde] at hdx
  refine ⟨rfl, dx, _, (upd_ne (Ne.symm hde)).trans upd_same, upd_same, hdx, ?_⟩
  exact q dx _ _ hdx (mk_same he hdx fun b h1 h2 => by rw [upd_ne h2, upd_ne h1, upd_ne h2, upd_ne h1]) upd_same (by rfl) (by rfl)
theorem pmk_chk {X : Cx} {a b c : Expr} {ta : TA} {p pos : Pos} (T : TErr X.prog X.w X.K X.mg X.base CS CC) (hr : Room 4 X.A) (ha : PA X [a, b, c] ta) (hg : Gl X "CheckFault" := by rfl)
    (he : starEach (a :: [b, c]) X.env = (false, eval a X.env) :: starEach [b, c] X.env := by rfl) (hpl : (backTo pos (starEach [b, c] X.env)).any (·.1) = false := by rfl) :
    PMk X (.Call (.Name "CheckFault" p) [a, b, c] [] pos) (tMkChk CC ta) := fun pins s σ H Q I h => by
  refine pmk_oex (dvs := []) T.chk.S.T T.chk.iC T.chk.tI (ok_chk T) (hr.mono (by decide)) T.chk.b .nil pass0 hg T.chk.mgx (pa_up ha) (by decide) he hpl pins s σ H Q I ?_
  refine ⟨_, h, fun vs H1 ⟨r, i, j, e, hr, hi, hj, q⟩ => ?_⟩
  subst e
  refine ⟨by simp, fun e he => ⟨e, r, i, j, rfl, hr, hi, hj, upd_same, fun dx hdx hde => ?_⟩⟩
  rw [upd_ne hde] at hdx
  refine ⟨rfl, dx, _, (upd_ne (Ne.symm hde)).trans ((upd_ne (Ne.symm hde)).trans upd_same), upd_same, hdx, ?_⟩
  exact q dx _ _ hdx (mk_same he hdx fun b h1 h2 => by rw [upd_ne h2, upd_ne h2, upd_ne h1, upd_ne h2, upd_ne h1]) upd_same (by rfl) (by rfl) (by rfl)
end

end Wv
end WvE_
section WvH1_
set_option Elab.async false
set_option linter.all false
set_option maxRecDepth 100000
set_option maxHeartbeats 2000000
/-! what the head tells: by a Hook with the own exceptions' __init__ -/
namespace Wv
open PySem PySem.Spec PyProof.Rows L2 He LamX
/-- an __init__ that says super(): its function without the cell's address -/
abbrev FnS : Type := Option (Str × Str × Arguments × FuncBody × Scope × Addr × List Str × Addr)
def fnS (K : PySem.W.Frag) (p : Str × Option Str) : FnS := match K.lookup (fAd K p) with
  | some ⟨_, _, .func fd, _⟩ => some (fd.name, fd.qualname, fd.params, fd.body, fd.scope, fd.globals, fd.closure.map (·.1), fd.builtins)
  | _ => none
def ccOf (K : PySem.W.Frag) (p : Str × Option Str) : Addr := match K.lookup (fAd K p) with
  | some ⟨_, _, .func fd, _⟩ => (match fd.closure with
    | [(_, c)] => c
    | _ => 0)
  | _ => 0
structure SupD where
  cls : Str
  qual : Str
  params : Arguments
  body : List Stmt
  scope : Scope
abbrev SupD.at_ (d : SupD) : Str × Option Str := (d.cls, some "__init__")
def SupD.val (d : SupD) : FnS := some ("__init__", d.qual, d.params, .stmts d.body, d.scope, mainGlobals, ["__class__"], builtinsNs)
def plainDfl (K : PySem.W.Frag) (p : Str × Option Str) : Bool := match K.lookup (fAd K p) with
  | some ⟨_, _, .func fd, _⟩ => (match fd.defaults with
    | .none => true
    | _ => false)
  | _ => false
theorem sup_fn {K : PySem.W.Frag} {d : SupD} (e : fnS K d.at_ = d.val) (p : plainDfl K d.at_ = true) (c : (Fa.code d.at_ d.qual).ok K = true) :
    ∃ oc od kV doc pm an ct osl, K.lookup (fAd K d.at_) = some (⟨oc, od, .func (PySem.W.ksFn "__init__" d.qual d.params d.body d.scope .none kV doc pm an (.ref (codeOf K d.at_)) ct (ccOf K d.at_)), osl⟩ : Obj) ∧ PySem.W.codeIn K (.ref (codeOf K d.at_)) d.qual = true := by
  unfold fnS at e
  have c2 : (match K.lookup (fAd K d.at_) with
    | some ⟨_, _, .func fd, _⟩ => PySem.W.codeIn K fd.code d.qual
    | _ => false) = true := c
  unfold plainDfl at p
  cases q : K.lookup (fAd K d.at_) with
  | none =>
    rw [q] at c2
    cases c2
  | some o =>
    obtain ⟨oc, od, dt, osl⟩ := o
    rw [q] at e c2 p
    cases dt with
    | func fd =>
      obtain ⟨n1, n2, n3, n4, n5, n6, n7, n8, n9, n10, n11, n12, n13, n14, n15⟩ := fd
      have e2 : (some (n1, n2, n3, n4, n5, n6, n7.map (·.1), n15) : FnS) = (some ("__init__", d.qual, d.params, .stmts d.body, d.scope, mainGlobals, ["__class__"], builtinsNs) : FnS) := e
      simp only [Option.some.injEq, Prod.mk.injEq] at e2
      obtain ⟨h1, h2, h3, h4, h5, h6, h7, h8⟩ := e2
      subst h1 h2 h3 h4 h5 h6 h8
      have c3 : PySem.W.codeIn K n13 d.qual = true := c2
      obtain ⟨cc, hcl⟩ : ∃ cc : Addr, n7 = [(("__class__" : Str), cc)] := by
        cases n7 with
        | nil => simp at h7
        | cons x r =>
          obtain ⟨y, z⟩ := x
          simp at h7
          obtain ⟨rfl, rfl⟩ := h7
          exact ⟨z, rfl⟩
      subst hcl
      obtain ⟨a, rfl⟩ := codeIn_ref c3
      have hd : n8 = .none := by
        cases n8 with
        | none => rfl
        | _ => cases p
      subst hd
      have e1 : codeOf K d.at_ = a := codeOf_eq q rfl
      have e3 : ccOf K d.at_ = cc := by
        unfold ccOf
        rw [q]
      rw [e1, e3]
      exact ⟨oc, od, n9, n10, n11, n12, n14, osl, rfl, c3⟩
    | _ => cases c2
/-! ### the Hook -/
abbrev AlY : Type := AlX × List FnS
structure SaysY (fa : List Fa) (fn : List DefD) (ts : List Tab) (tf : List Defn) (ss : List SupD) (ex : PySem.W.Frag → Bool) (w : World) (h : Heap) (K : PySem.W.Frag) : Prop where
  x : SaysX fa fn ts tf ex w h K
  s : ss.map (fun d => fnS K d.at_) = ss.map SupD.val
/-- what is looked at: all that the module's names reach in n steps, and the model's own notes -/
def lookY (n : Nat) (g : Addr → Option Obj) : PySem.W.Frag := frT g (PySem.cStatics :: asD g n)
def obsY (n : Nat) (fa : List Fa) (fn : List DefD) (ts : List Tab) (tf : List Defn) (ss : List SupD) (ex : PySem.W.Frag → Bool) (g : Addr → Option Obj) : AlY :=
  ((obsT fa fn ts (lookY n g), ex (lookY n g) && tabsB g tf (lookY n g)), ss.map fun d => fnS (lookY n g) d.at_)
theorem saysY_of {n : Nat} {fa : List Fa} {fn : List DefD} {ts : List Tab} {tf : List Defn} {ss : List SupD} {ex : PySem.W.Frag → Bool} {w : World} {h : Heap} (e : obsY n fa fn ts tf ss ex h.get? = (valX fn ts w, ss.map SupD.val)) : SaysY fa fn ts tf ss ex w h (lookY n h.get?) := by
  have e1 : obsT fa fn ts (lookY n h.get?) = valT fn ts w := congrArg (fun z : AlY => z.1.1) e
  have e2 : (ex (lookY n h.get?) && tabsB h.get? tf (lookY n h.get?)) = true := congrArg (fun z : AlY => z.1.2) e
  obtain ⟨h1, h2⟩ := ba e2
  have one : ∀ p ∈ tf, PySem.W.codeHdIn (lookY n h.get?) (cT (lookY n h.get?) p).1 (cT (lookY n h.get?) p).2 = true ∧ ∃ o, h.get? (cT (lookY n h.get?) p).2 = some o ∧ emptyTab o = true := by
    intro p hp
    obtain ⟨h3, h4⟩ := ba (List.all_eq_true.mp h2 p hp)
    refine ⟨h3, ?_⟩
    split at h4
    · rename_i o ho
      exact ⟨o, ho, h4⟩
    · cases h4
  refine ⟨⟨e1, h1, fun p hp => (one p hp).1, fun p hp => ?_, fun p hp => ?_⟩, congrArg (fun z : AlY => z.2) e⟩
  · obtain ⟨_, o, q, z⟩ := one p hp
    exact frT_none q z
  · obtain ⟨_, o, q, z⟩ := one p hp
    rw [q, emptyTab_eq z]
def hookY (n : Nat) (fa : List Fa) (fn : List DefD) (ts : List Tab) (tf : List Defn) (ss : List SupD) (ex : PySem.W.Frag → Bool) : PySem.W.Hook where
  α := AlY
  obs := fun s => obsY n fa fn ts tf ss ex s.heap.get?
  val := fun w => (valX fn ts w, ss.map SupD.val)
  says := fun w h => ∃ K : PySem.W.Frag, K.In h ∧ SaysY fa fn ts tf ss ex w h K
  of := fun _ _ e => ⟨_, frT_in, saysY_of e⟩
  keeps := fun _ _ _ ⟨K, hK, c⟩ k => ⟨K, PySem.W.Frag.In.keeps hK k, ⟨⟨c.x.t, c.x.more, c.x.hd, c.x.out, fun p hp => k _ _ (c.x.empty p hp)⟩, c.s⟩⟩
theorem obsY_eq {n : Nat} {fa : List Fa} {fn : List DefD} {ts : List Tab} {tf : List Defn} {ss : List SupD} {ex : PySem.W.Frag → Bool} {g : Addr → Option Obj} {s : Shared} (h : ∀ a, g a = s.heap.get? a) : obsY n fa fn ts tf ss ex g = (hookY n fa fn ts tf ss ex).obs s := by
  have e : g = s.heap.get? := funext h
  rw [e] <;> rfl
section
variable {fa : List Fa} {fn : List DefD} {ts : List Tab} {tf : List Defn} {ss : List SupD} {ex : PySem.W.Frag → Bool} {w : World} {h : Heap} {K : PySem.W.Frag} {mg : Str → Option Value}
theorem SaysY.sup (c : SaysY fa fn ts tf ss ex w h K) (i : Nat) {d : SupD} (hd : ss[i]? = some d := by rfl) : fnS K d.at_ = d.val := by
  have e : (ss.map (fun d => fnS K d.at_))[i]? = (ss.map SupD.val)[i]? := by rw [c.s]
  rw [List.getElem?_map, List.getElem?_map, hd] at e
  exact Option.some.inj e
theorem SaysY.fa_ (c : SaysY fa fn ts tf ss ex w h K) {f : Fa} (m : f ∈ fa) : f.ok K = true := c.x.t.d.facts m
/-- a def of the top, without defaults -/
theorem fun_of {d : DefD} (c : SaysY fa fn ts tf ss ex w h K) (m : d ∈ fn) (h0 : d.dfl = []) (h1 : d.kwd = []) : ∃ fd, FunD K d.name d.qual d.params d.body d.scope [] [] (fAd K d.at_) fd := by
  obtain ⟨fd, F⟩ := c.x.t.d.defs m
  have e0 : d.dvs K = [] := by unfold DefD.dvs; rw [h0]; rfl
  have e1 : d.kws K = [] := by unfold DefD.kws; rw [h1]; rfl
  rw [e0, e1] at F
  exact ⟨fd, F⟩
theorem funD_fun {x qual : Str} {st : Stmt} {f : Addr} {fd : FuncData} (F : FunD K x qual (defArgs st) (defBody st) (defScope st) [] [] f fd) : Fun K x qual st f fd := by
  obtain ⟨oc, od, dV, kV, doc, pm, an, cdv, ct, osl, e, lk, hcd, hD, hK⟩ := F.ex
  rcases hD with ⟨_, rfl⟩ | ⟨q, _⟩
  · exact ⟨⟨oc, od, kV, doc, pm, an, cdv, ct, osl, e, lk, hcd⟩, F.kp⟩
  · exact absurd rfl q
theorem funD_code {x qual : Str} {st : Stmt} {p : Str × Option Str} {fd : FuncData} (F : FunD K x qual (defArgs st) (defBody st) (defScope st) [] [] (fAd K p) fd) :
    ∃ (oc : Value) (od : Option Addr) (kV doc pm : Value) (an : Option Addr) (ct : Value) (osl : Array (Option Value)),
    fd = PySem.W.fnOf x qual (defArgs st) (defBody st) (defScope st) .none kV doc pm an (.ref (codeOf K p)) ct ∧ K.lookup (fAd K p) = some ⟨oc, od, .func fd, osl⟩ ∧ PySem.W.codeIn K (.ref (codeOf K p)) qual = true := by
  obtain ⟨oc, od, dV, kV, doc, pm, an, cdv, ct, osl, e, lk, hcd, hD, hK⟩ := F.ex
  rcases hD with ⟨_, rfl⟩ | ⟨q, _⟩
  · obtain ⟨a, rfl⟩ := codeIn_ref hcd
    subst e
    have e1 : codeOf K p = a := codeOf_eq lk rfl
    rw [e1]
    exact ⟨oc, od, kV, doc, pm, an, ct, osl, rfl, lk, hcd⟩
  · exact absurd rfl q
end
/-! ### own exceptions -/
def oexB (K : PySem.W.Frag) (C : Addr) : Bool := (match K.lookup C with
  | some ⟨.type t, _, .cls cd, sl⟩ => decide (t = "type") && (match cd.mro, sl.toList with
    | .ref C' :: bm, [_, _, _, _, some (.builtin n), _] => decide (C' = C) && (decide (n = "ValueError.__new__") && (!cd.hasDel && (cd.hasDict && HandSPX.refsVE bm)))
    | _, _ => false)
  | _ => false) && (eqO (PySem.W.findIn K (.ref C) "__setattr__") (some (some (.builtin "object.__setattr__"))) && (decide (PySem.W.subIn K (.ref C) (.type "BaseException") = some true) && (decide (PySem.W.typeIn K (.ref C) = some (.type "type")) && PySem.W.keepIn K (.ref C))))
theorem oexB_ok {K : PySem.W.Frag} {C : Addr} (h : oexB K C = true) : OexC K C := by
  obtain ⟨h1, h2⟩ := ba h
  obtain ⟨h3, h4⟩ := ba h2
  obtain ⟨h5, h6⟩ := ba h4
  obtain ⟨h7, h8⟩ := ba h6
  refine ⟨?_, eqO_ok h3, of_decide_eq_true h5, of_decide_eq_true h7, h8⟩
  split at h1
  · rename_i t dd cd sl ho
    obtain ⟨g1, g2⟩ := ba h1
    have et := of_decide_eq_true g1
    subst et
    split at g2
    · rename_i C' bm k0 k1 k2 k3 n k5 hm hs
      obtain ⟨j1, j2⟩ := ba g2
      obtain ⟨j3, j4⟩ := ba j2
      obtain ⟨j5, j6⟩ := ba j4
      obtain ⟨j7, j8⟩ := ba j6
      have e1 := of_decide_eq_true j1
      have e2 := of_decide_eq_true j3
      subst e1 e2
      obtain ⟨nm, bs, mro, ns, qn, hd, sn, sub, ab, col, del⟩ := cd
      dsimp only at hm j5 j7
      subst hm j7
      have hdel : del = false := by simpa using j5
      subst hdel
      have hsl : sl = #[k0, k1, k2, k3, some (.builtin "ValueError.__new__"), k5] := by
        obtain ⟨l⟩ := sl
        dsimp only at hs
        rw [hs]
      subst hsl
      exact ⟨nm, qn, ns, bs, bm, sn, sub, ab, col, dd, k0, k1, k2, k3, k5, ho, j8⟩
    · cases g2
  · cases h1
def cellB (K : PySem.W.Frag) (cc C : Addr) : Bool := match K.lookup cc with
  | some ⟨_, _, .cell (some (.ref D)), _⟩ => decide (D = C)
  | _ => false
theorem cellB_ok {K : PySem.W.Frag} {cc C : Addr} (h : cellB K cc C = true) : ∃ cl cld csl, K.lookup cc = some (⟨cl, cld, .cell (some (.ref C)), csl⟩ : Obj) := by
  unfold cellB at h
  split at h
  · rename_i a b D c ho
    have e := of_decide_eq_true h
    subst e
    exact ⟨_, _, _, ho⟩
  · cases h
def fileB (P : Program) (K : PySem.W.Frag) (cda : Addr) : Bool := match K.lookup cda with
  | some ⟨_, _, .fields vs, _⟩ => (match (vs[2]? : Option Value) with
    | some (.str file _) => (P.main.file : Str) == file
    | _ => false)
  | _ => false
theorem fileB_ok {P : Program} {K : PySem.W.Frag} {cda : Addr} (h : fileB P K cda = true) : ∃ ccl cdd vs ccs file tf, K.lookup cda = some (⟨ccl, cdd, .fields vs, ccs⟩ : Obj) ∧ vs[2]? = some (.str file tf) ∧ ((P.main.file : Str) == file) = true := by
  unfold fileB at h
  split at h
  · rename_i a b vs c ho
    split at h
    · rename_i file tf hv
      exact ⟨_, _, vs, _, file, tf, ho, hv, h⟩
    · cases h
  · cases h
/-- an own exception x with an __init__ that says super() -/
def supB (P : Program) (K : PySem.W.Frag) (x : Str) : Bool :=
  oexB K (ga K x) && (cellB K (ccOf K (x, some "__init__")) (ga K x) && (fileB P K (codeOf K (x, some "__init__")) && (decide (PySem.W.ks_superIn K (ga K x) (ga K x) "__init__" = some (some (.builtin "ValueError.__init__"))) &&
    (decide (PySem.W.subIn K (.ref (ga K x)) (.type "ValueError") = some true) && (decide (PySem.W.mroIn K (ga K x) (.ref (ga K x)) = some true) && (decide (PySem.W.nsIn K cStatics "thirdparty.any" = some none) &&
    (eqO (PySem.W.findIn K (.ref (ga K x)) "__init__") (some (some (.ref (fAd K (x, some "__init__"))))) && (decide (PySem.W.typeIn K (.ref (fAd K (x, some "__init__"))) = some (.type "function")) && (plainDfl K (x, some "__init__"))))))))))
theorem supB_ok {P : Program} {K : PySem.W.Frag} {mg : Str → Option Value} {x : Str} (h : supB P K x = true) (top : (P.main.scope.names.lookup ("super" : Str)).isSome = false) (mgs : mg "super" = none) :
    SupC P K mg (ga K x) (ccOf K (x, some "__init__")) (codeOf K (x, some "__init__")) ∧ PySem.W.findIn K (.ref (ga K x)) "__init__" = some (some (.ref (fAd K (x, some "__init__")))) ∧
      PySem.W.typeIn K (.ref (fAd K (x, some "__init__"))) = some (.type "function") ∧ plainDfl K (x, some "__init__") = true := by
  obtain ⟨h1, h⟩ := ba h
  obtain ⟨h2, h⟩ := ba h
  obtain ⟨h3, h⟩ := ba h
  obtain ⟨h4, h⟩ := ba h
  obtain ⟨h5, h⟩ := ba h
  obtain ⟨h6, h⟩ := ba h
  obtain ⟨h7, h⟩ := ba h
  obtain ⟨h8, h⟩ := ba h
  obtain ⟨h9, h10⟩ := ba h
  exact ⟨⟨oexB_ok h1, cellB_ok h2, fileB_ok h3, top, mgs, of_decide_eq_true h4, of_decide_eq_true h5, of_decide_eq_true h6, of_decide_eq_true h7⟩, eqO_ok h8, of_decide_eq_true h9, h10⟩
/-! ### the grammar's table -/
def tupAt (K : PySem.W.Frag) (a : Addr) (vs : List V) : Bool := match K.lookup a with
  | some ⟨.type c, _, .seq its _, _⟩ => decide (c = "tuple") && (decide (its.size ≤ sizeLine) && relAll vs its.toList)
  | _ => false
theorem tupAt_ok {K : PySem.W.Frag} {a : Addr} {vs : List V} (h : tupAt K a vs = true) (H : Hp) : SqT K H a vs := by
  unfold tupAt at h
  split at h
  · rename_i c b its n d ho
    obtain ⟨h1, h2⟩ := ba h
    obtain ⟨h3, h4⟩ := ba h2
    exact .inr ⟨_, its, n, ho, congrArg Value.type (of_decide_eq_true h1), rfl, of_decide_eq_true h3, relAll_ok h4⟩
  · cases h
def strVs (ks : List (List Nat)) : List V := ks.map fun k => .str (SX.S k)
def formsB (K : PySem.W.Frag) : Bool := (formsL.all fun q => match PySem.W.nsIn K (ga K "FORMS") (SX.S q.1) with
  | some (some (.ref a)) => tupAt K a (strVs q.2)
  | _ => false) && kinds.all fun k => (forms k).isSome || eqO (PySem.W.nsIn K (ga K "FORMS") (SX.S k)) (some none)
theorem lookup_in {α β : Type} [BEq α] [LawfulBEq α] {k : α} {v : β} : ∀ {l : List (α × β)}, l.lookup k = some v → (k, v) ∈ l
  | (a, b) :: r, h => by
    rw [List.lookup] at h
    split at h
    · rename_i e
      cases h
      rw [beq_iff_eq.mp e]
      exact List.mem_cons_self
    · exact List.mem_cons_of_mem _ (lookup_in h)
theorem formsB_get {K : PySem.W.Frag} (h : formsB K = true) : ∀ k ps, forms k = some ps → ∃ a, PySem.W.nsIn K (ga K "FORMS") (SX.S k) = some (some (.ref a)) ∧ ∀ H, SqT K H a (ps.map fun k => V.str (SX.S k)) := fun k ps e => by
  have h1 := List.all_eq_true.mp (ba h).1 (k, ps) (lookup_in e)
  dsimp only at h1
  split at h1
  · rename_i a ha
    exact ⟨a, ha, tupAt_ok h1⟩
  · cases h1
theorem formsB_miss {K : PySem.W.Frag} (h : formsB K = true) : ∀ k ∈ kinds, forms k = none → PySem.W.nsIn K (ga K "FORMS") (SX.S k) = some none := fun k hk e => by
  have h1 := List.all_eq_true.mp (ba h).2 k hk
  rw [e] at h1
  exact eqO_ok (by simpa using h1)
/-! ### the catcher's classes -/
def excB (K : PySem.W.Frag) (C : Addr) : Bool := eqO (PySem.W.findIn K (.ref C) "__getattribute__") (some (some (.builtin "BaseException.__getattribute__"))) && (eqO (PySem.W.findIn K (.ref C) "__getattr__") (some none) && (decide (PySem.W.subIn K (.ref C) (.type "BaseException") = some true) &&
  (PySem.W.hasDictIn K C && (eqO (PySem.W.findIn K (.ref C) "__class__") (some (some (.builtin "object.__class__"))) && (eqO (PySem.W.specialIn K (.builtin "object.__class__") "__get__") (some (some (.builtin "getset_descriptor.__get__"))) &&
  (decide (PySem.W.takesIn K (.builtin "object.__class__") = some true) && decide (PySem.W.mroIn K C (.type "object") = some true)))))))
theorem excB_ok {K : PySem.W.Frag} {C : Addr} (h : excB K C = true) : ExcC K C ∧ XfC K C := by
  obtain ⟨h1, h⟩ := ba h
  obtain ⟨h2, h⟩ := ba h
  obtain ⟨h3, h⟩ := ba h
  obtain ⟨h4, h⟩ := ba h
  obtain ⟨h5, h⟩ := ba h
  obtain ⟨h6, h⟩ := ba h
  obtain ⟨h7, h8⟩ := ba h
  exact ⟨⟨eqO_ok h1, eqO_ok h2, of_decide_eq_true h3, h4, eqO_ok h5, eqO_ok h6, of_decide_eq_true h7, of_decide_eq_true h8⟩, ⟨eqO_ok h1, eqO_ok h2, of_decide_eq_true h3, h4⟩⟩
end Wv
end WvH1_
section WvHd_
set_option Elab.async false
set_option linter.all false
set_option maxRecDepth 100000

set_option maxHeartbeats 4000000
namespace Wv
open PySem PySem.Spec PySem.W PySem.Calls PyProof.Rows L2 He LamX
abbrev PR : Program := PySem.Challenge.pw_watervalves_k03_canonical_plans
abbrev RL : PySem.W.OpenLaw := PySem.Challenge.rw_watervalves_k03_canonical_plans
abbrev RO : PySem.W.OpenRow := PySem.W.OpenLaw.row PySem.Challenge.rw_watervalves_k03_canonical_plans
abbrev qv : Program := PySem.W.view RO.prog [57]
def names0 : List PySem.Str := ["__name__", "plan_text", "dry_runs", "_line", "GardenError", "SyntaxFault", "CheckFault", "MOST_TICKS", "MOST_OPEN", "MOST_VALVES", "MOST_WATER", "MOST_STARTS", "Checker", "check_statements", "_limited", "KEYWORDS", "LETTERS", "DIGITS", "MOST_LETTERS", "MOST_DIGITS", "Token", "read_tokens", "count_lines", "_row_tokens", "_token_at", "_run_of", "_word_kind", "_is_number", "HEAD", "FORMS"]
def names1 : List PySem.Str := ["Statement", "Parser", "parse_plan", "Garden", "read_plan", "read_plans", "_build_garden", "_rank", "_starts", "_dry", "format_plan", "valves", "_law_random", "_law_below", "_law_shuffled", "_law_wide", "_law_runs", "_law_text", "_law_loosened", "_law_equal"]
def namesL : List PySem.Str := names0 ++ names1
def d__is_number : DefD := ⟨("_is_number", none), "_is_number", "_is_number", defArgs s__is_number, defBody s__is_number, defScope s__is_number, [], []⟩
def d__word_kind : DefD := ⟨("_word_kind", none), "_word_kind", "_word_kind", defArgs s__word_kind, defBody s__word_kind, defScope s__word_kind, [], []⟩
def d__run_of : DefD := ⟨("_run_of", none), "_run_of", "_run_of", defArgs s__run_of, defBody s__run_of, defScope s__run_of, [], []⟩
def d_Token___init__ : DefD := ⟨("Token", some "__init__"), "__init__", "Token.__init__", defArgs s_Token___init__, defBody s_Token___init__, defScope s_Token___init__, [], []⟩
def d__token_at : DefD := ⟨("_token_at", none), "_token_at", "_token_at", defArgs s__token_at, defBody s__token_at, defScope s__token_at, [], []⟩
def d__row_tokens : DefD := ⟨("_row_tokens", none), "_row_tokens", "_row_tokens", defArgs s__row_tokens, defBody s__row_tokens, defScope s__row_tokens, [], []⟩
def d_count_lines : DefD := ⟨("count_lines", none), "count_lines", "count_lines", defArgs s_count_lines, defBody s_count_lines, defScope s_count_lines, [], []⟩
def d_read_tokens : DefD := ⟨("read_tokens", none), "read_tokens", "read_tokens", defArgs s_read_tokens, defBody s_read_tokens, defScope s_read_tokens, [], []⟩
def d_Statement___init__ : DefD := ⟨("Statement", some "__init__"), "__init__", "Statement.__init__", defArgs s_Statement___init__, defBody s_Statement___init__, defScope s_Statement___init__, [], []⟩
def d_Parser_ahead : DefD := ⟨("Parser", some "ahead"), "ahead", "Parser.ahead", defArgs s_Parser_ahead, defBody s_Parser_ahead, defScope s_Parser_ahead, [], []⟩
def d_Parser_refuse : DefD := ⟨("Parser", some "refuse"), "refuse", "Parser.refuse", defArgs s_Parser_refuse, defBody s_Parser_refuse, defScope s_Parser_refuse, [], []⟩
def d_Parser_take : DefD := ⟨("Parser", some "take"), "take", "Parser.take", defArgs s_Parser_take, defBody s_Parser_take, defScope s_Parser_take, [], []⟩
def d_Parser_take_names : DefD := ⟨("Parser", some "take_names"), "take_names", "Parser.take_names", defArgs s_Parser_take_names, defBody s_Parser_take_names, defScope s_Parser_take_names, [], []⟩
def d_Parser_take_statement : DefD := ⟨("Parser", some "take_statement"), "take_statement", "Parser.take_statement", defArgs s_Parser_take_statement, defBody s_Parser_take_statement, defScope s_Parser_take_statement, [], []⟩
def d_Parser___init__ : DefD := ⟨("Parser", some "__init__"), "__init__", "Parser.__init__", defArgs s_Parser___init__, defBody s_Parser___init__, defScope s_Parser___init__, [], []⟩
def d_parse_plan : DefD := ⟨("parse_plan", none), "parse_plan", "parse_plan", defArgs s_parse_plan, defBody s_parse_plan, defScope s_parse_plan, [], []⟩
def d__limited : DefD := ⟨("_limited", none), "_limited", "_limited", defArgs s__limited, defBody s__limited, defScope s__limited, [], []⟩
def d_Checker___init__ : DefD := ⟨("Checker", some "__init__"), "__init__", "Checker.__init__", defArgs s_Checker___init__, defBody s_Checker___init__, defScope s_Checker___init__, [], []⟩
def d_Checker_check_known : DefD := ⟨("Checker", some "check_known"), "check_known", "Checker.check_known", defArgs s_Checker_check_known, defBody s_Checker_check_known, defScope s_Checker_check_known, [], []⟩
def d_Checker_check_valves : DefD := ⟨("Checker", some "check_valves"), "check_valves", "Checker.check_valves", defArgs s_Checker_check_valves, defBody s_Checker_check_valves, defScope s_Checker_check_valves, [], []⟩
def d_Checker_check_start : DefD := ⟨("Checker", some "check_start"), "check_start", "Checker.check_start", defArgs s_Checker_check_start, defBody s_Checker_check_start, defScope s_Checker_check_start, [], []⟩
def d_Checker_check_pause : DefD := ⟨("Checker", some "check_pause"), "check_pause", "Checker.check_pause", defArgs s_Checker_check_pause, defBody s_Checker_check_pause, defScope s_Checker_check_pause, [], []⟩
def d_Checker_check_rank : DefD := ⟨("Checker", some "check_rank"), "check_rank", "Checker.check_rank", defArgs s_Checker_check_rank, defBody s_Checker_check_rank, defScope s_Checker_check_rank, [], []⟩
def d_Checker_check : DefD := ⟨("Checker", some "check"), "check", "Checker.check", defArgs s_Checker_check, defBody s_Checker_check, defScope s_Checker_check, [], []⟩
def d_check_statements : DefD := ⟨("check_statements", none), "check_statements", "check_statements", defArgs s_check_statements, defBody s_check_statements, defScope s_check_statements, [], []⟩
def d__starts : DefD := ⟨("_starts", none), "_starts", "_starts", defArgs s__starts, defBody s__starts, defScope s__starts, [], []⟩
def d__dry : DefD := ⟨("_dry", none), "_dry", "_dry", defArgs s__dry, defBody s__dry, defScope s__dry, [], []⟩
def d__rank : DefD := ⟨("_rank", none), "_rank", "_rank", defArgs s__rank, defBody s__rank, defScope s__rank, [], []⟩
def d_Garden___init__ : DefD := ⟨("Garden", some "__init__"), "__init__", "Garden.__init__", defArgs s_Garden___init__, defBody s_Garden___init__, defScope s_Garden___init__, [], []⟩
def d__build_garden : DefD := ⟨("_build_garden", none), "_build_garden", "_build_garden", defArgs s__build_garden, defBody s__build_garden, defScope s__build_garden, [], []⟩
def d_read_plans : DefD := ⟨("read_plans", none), "read_plans", "read_plans", defArgs s_read_plans, defBody s_read_plans, defScope s_read_plans, [], []⟩
def d_read_plan : DefD := ⟨("read_plan", none), "read_plan", "read_plan", defArgs s_read_plan, defBody s_read_plan, defScope s_read_plan, [], []⟩
def d__line : DefD := ⟨("_line", none), "_line", "_line", defArgs s__line, defBody s__line, defScope s__line, [], []⟩
def d_dry_runs : DefD := ⟨("dry_runs", none), "dry_runs", "dry_runs", defArgs s_dry_runs, defBody s_dry_runs, defScope s_dry_runs, [], []⟩
def d_plan_text : DefD := ⟨("plan_text", none), "plan_text", "plan_text", defArgs s_plan_text, defBody s_plan_text, defScope s_plan_text, [], []⟩
def d_format_plan : DefD := ⟨("format_plan", none), "format_plan", "format_plan", defArgs s_format_plan, defBody s_format_plan, defScope s_format_plan, [], []⟩
def d__law_below : DefD := ⟨("_law_below", none), "_law_below", "_law_below", defArgs s__law_below, defBody s__law_below, defScope s__law_below, [], []⟩
def d__law_random : DefD := ⟨("_law_random", none), "_law_random", "_law_random", defArgs s__law_random, defBody s__law_random, defScope s__law_random, [], []⟩
def d__law_shuffled : DefD := ⟨("_law_shuffled", none), "_law_shuffled", "_law_shuffled", defArgs s__law_shuffled, defBody s__law_shuffled, defScope s__law_shuffled, [], []⟩
def d__law_runs : DefD := ⟨("_law_runs", none), "_law_runs", "_law_runs", defArgs s__law_runs, defBody s__law_runs, defScope s__law_runs, [], []⟩
def d__law_text : DefD := ⟨("_law_text", none), "_law_text", "_law_text", defArgs s__law_text, defBody s__law_text, defScope s__law_text, [], []⟩
def d__law_wide : DefD := ⟨("_law_wide", none), "_law_wide", "_law_wide", defArgs s__law_wide, defBody s__law_wide, defScope s__law_wide, [], []⟩
def d__law_loosened : DefD := ⟨("_law_loosened", none), "_law_loosened", "_law_loosened", defArgs s__law_loosened, defBody s__law_loosened, defScope s__law_loosened, [], []⟩
def d__law_equal : DefD := ⟨("_law_equal", none), "_law_equal", "_law_equal", defArgs s__law_equal, defBody s__law_equal, defScope s__law_equal, [], []⟩
def d_valves : DefD := ⟨("valves", none), "valves", "valves", defArgs s_valves, defBody s_valves, defScope s_valves, [], []⟩
def d_law : DefD := ⟨("law", none), "law", "law", defArgs s_law, defBody s_law, defScope s_law, [], []⟩
def fnL : List DefD := [d__is_number, d__word_kind, d__run_of, d_Token___init__, d__token_at, d__row_tokens, d_count_lines, d_read_tokens, d_Statement___init__, d_Parser_ahead, d_Parser_refuse, d_Parser_take, d_Parser_take_names, d_Parser_take_statement, d_Parser___init__, d_parse_plan, d__limited, d_Checker___init__, d_Checker_check_known, d_Checker_check_valves, d_Checker_check_start, d_Checker_check_pause, d_Checker_check_rank, d_Checker_check, d_check_statements, d__starts, d__dry, d__rank, d_Garden___init__, d__build_garden, d_read_plans, d_read_plan, d__line, d_dry_runs, d_plan_text, d_format_plan, d__law_below, d__law_random, d__law_shuffled, d__law_runs, d__law_text, d__law_wide, d__law_loosened, d__law_equal, d_valves, d_law]
theorem mem_fn (i : Nat) {d : DefD} (h : fnL[i]? = some d := by rfl) : d ∈ fnL := List.mem_of_getElem? h
def sup0 : SupD := ⟨"SyntaxFault", "SyntaxFault.__init__", defArgs s_SyntaxFault, defBody s_SyntaxFault, defScope s_SyntaxFault⟩
def sup1 : SupD := ⟨"CheckFault", "CheckFault.__init__", defArgs s_CheckFault, defBody s_CheckFault, defScope s_CheckFault⟩
def ssL : List SupD := [sup0, sup1]
def faL : List Fa := [.free "len", .free "int", .free "str", .free "list", .free "range", .free "enumerate", .free "isinstance", .free "sorted", .free "abs", .free "max", .free "min", .free "tuple", .free "zip", .free "sum", .free "divmod", .free "any", .free "all", .free "bool", .int "MOST_TICKS" 60, .int "MOST_OPEN" 9, .int "MOST_VALVES" 8, .int "MOST_WATER" 30, .int "MOST_STARTS" 20, .int "MOST_LETTERS" 8, .int "MOST_DIGITS" 2, .str "LETTERS" (SX.S letters), .str "DIGITS" (SX.S digits), .glo "KEYWORDS", .glo "HEAD", .glo "FORMS", .cls "Token", .noat "Token" "kind", .noat "Token" "text", .noat "Token" "line", .noat "Token" "column", .cls "Statement", .noat "Statement" "keyword", .noat "Statement" "names", .noat "Statement" "numbers", .cls "Parser", .noat "Parser" "tokens", .noat "Parser" "lines", .noat "Parser" "taken", .cls "Checker", .noat "Checker" "period", .noat "Checker" "names", .noat "Checker" "starts", .noat "Checker" "ranks", .cls "Garden", .noat "Garden" "period", .noat "Garden" "limit", .noat "Garden" "names", .noat "Garden" "rank", .noat "Garden" "starts", .noat "Garden" "dry", .noat "Garden" "requests", .free "super", .code ("SyntaxFault", some "__init__") "SyntaxFault.__init__", .code ("CheckFault", some "__init__") "CheckFault.__init__", .glo "SyntaxFault", .glo "CheckFault", .noat "SyntaxFault" "line", .noat "SyntaxFault" "column", .noat "CheckFault" "reason", .noat "CheckFault" "line", .noat "CheckFault" "column", .glo "_is_number", .glo "_word_kind", .glo "_run_of", .mkr "Token", .glo "Token", .glo "_token_at", .glo "_row_tokens", .glo "count_lines", .glo "read_tokens", .mkr "Statement", .glo "Statement", .meth "Parser" "ahead", .meth "Parser" "refuse", .meth "Parser" "take", .meth "Parser" "take_names", .meth "Parser" "take_statement", .mkr "Parser", .glo "Parser", .glo "parse_plan", .glo "_limited", .mkr "Checker", .glo "Checker", .meth "Checker" "check_known", .meth "Checker" "check_valves", .meth "Checker" "check_start", .meth "Checker" "check_pause", .meth "Checker" "check_rank", .meth "Checker" "check", .glo "check_statements", .glo "_starts", .glo "_dry", .glo "_rank", .mkr "Garden", .glo "Garden", .glo "_build_garden", .glo "read_plans", .glo "read_plan", .glo "_line", .glo "dry_runs", .glo "plan_text", .glo "format_plan", .glo "_law_below", .glo "_law_random", .glo "_law_shuffled", .glo "_law_runs", .glo "_law_text", .glo "_law_wide", .glo "_law_loosened", .glo "_law_equal", .glo "valves", .glo "law"]
def tsL : List Tab := [(fun K => ga K "FORMS", ["round", "open", "valves", "start", "pause", "rank"])]
def tfL : List Defn := [("Garden", some "__init__")]
def catB (K : PySem.W.Frag) : Bool := true
def PGt (K : PySem.W.Frag) : Addr := (cT K ("Garden", some "__init__")).2
def TTL (K : PySem.W.Frag) : List (Addr × Str) := [(PGt K, lamQ)]
def tabB (K : PySem.W.Frag) : Bool := true
theorem tt_G {K : PySem.W.Frag} : (PGt K, lamQ) ∈ TTL K := List.mem_cons_self
theorem tt_Gu {K : PySem.W.Frag} (h : tabB K = true) : ∀ p ∈ TTL K, p.1 = PGt K → p.2 = lamQ := fun p hp e => by
  simp only [TTL, List.mem_cons, List.not_mem_nil, or_false] at hp
  subst hp
  rfl
def exL (K : PySem.W.Frag) : Bool := supB PR K "SyntaxFault" && (supB PR K "CheckFault" && (formsB K && (tupAt K (ga K "KEYWORDS") (strVs keywords) && (tupAt K (ga K "HEAD") (strVs headL) && (catB K && tabB K)))))
set_option maxHeartbeats 0
def obL (s : PySem.W.SharedT) : AlY := obsY 4 faL fnL tsL tfL ssL exL (HandSHeadRun.getT s)
theorem obL_eq (s : PySem.W.SharedT) : obL s = (hookY 4 faL fnL tsL tfL ssL exL).obs s.abs := obsY_eq (HandSHeadRun.getT_eq s)
theorem headRunF (w : World) : HandSHeadRun.RunEq RO qv (hookY 4 faL fnL tsL tfL ssL exL) obL 40000 namesL (w.withFollow "special-get-raises" false) := by
  intro os
  kernel_rfl
theorem headRunT (w : World) : HandSHeadRun.RunEq RO qv (hookY 4 faL fnL tsL tfL ssL exL) obL 40000 namesL (w.withFollow "special-get-raises" true) := by
  intro os
  kernel_rfl
theorem headRun (w : World) : HandSHeadRun.RunEq RO qv (hookY 4 faL fnL tsL tfL ssL exL) obL 40000 namesL w :=
  byRow2 "special-get-raises" (P := fun w => HandSHeadRun.RunEq RO qv (hookY 4 faL fnL tsL tfL ssL exL) obL 40000 namesL w) headRunF headRunT w
end Wv
end WvHd_
section WvL2_
set_option Elab.async false
set_option linter.all false
set_option maxRecDepth 100000
set_option maxHeartbeats 4000000
namespace Wv
open PySem L2
open SX (S S_len S_inj)
local macro_rules | `(tactic| walk_at "rd") => `(tactic| (try simp only [tVar, tC, tB, tAnd, tOr, tNot, tAndV, tOrV, tNotV, tIf, tNext, tSeq, tBreak, tCont, tDrop, tRet, tRetN, tIfS, gName, gNil, gCons, gTup, gSub, tAsg, tPar, tAug, tOp, tUn, rI, rI0, rU, rEq, rNe, tTest, tFld, tNil, tCons, tTup, tLst, tCB, tNoPart, tPart, tSl, rIxL, rIxT, rIxS, rSlL, rSlS, tBM0, tBM, rAppend, rExtend, rCat, rRep, rSetL, tM0, tM1, tCall, tMeth, tMake, sFld, sFldAug, rAdd, rSub, ipI, tBM0,
  scal_ss, scal_ii, scal_bb, scal_ns, scal_sn, scal_nn, tyV_str, L2.start, List.map_cons, List.map_nil, List.length_cons, List.length_nil, List.replicate, List.cons_append, List.nil_append, List.append_nil, List.getElem?_cons_zero, List.getElem?_cons_succ, List.set_cons_zero, List.set_cons_succ, Nat.reduceAdd, Nat.reduceSub, Nat.zero_add, Nat.sub_self, Nat.add_one_sub_one,
  Option.some.injEq, exists_eq_left, exists_eq_left', exists_eq', exists_eq, V.int.injEq, V.str.injEq, V.ref.injEq, V.bl.injEq, reduceCtorEq, List.cons.injEq, and_true, true_and, exists_and_left, exists_and_right, and_assoc, decide_true, decide_false, if_true, if_false, ite_true, ite_false, Bool.false_eq_true, Bool.true_eq_false, eq_self_iff_true, cx_K, nox_K, tMkSyn, tMkChk, tYes, bne, ne_eq, not_false_eq_true, not_true_eq_false, Bool.not_true, Bool.not_false, decide_eq_true_eq, Bool.not_eq_true', decide_eq_false_iff_not]))
section
variable {P : Program} {w : World} {K : PySem.W.Frag} {mg : Str → Option Value} {base : Heap}
theorem sc_Token___init__ : FnScope ["self", "kind", "text", "line", "column"] ["self", "kind", "text", "line", "column"] (defScope s_Token___init__) := ⟨rfl, rfl, rfl, by decide +kernel, rfl, by decide +kernel, by decide +kernel⟩
def sp_Token___init__ (C : Addr) : Sp := fun vs H Q _ => ∃ (p dx : Addr) (a b c d : V), vs = [.ref p, a, b, c, d] ∧ H p = some (.ins C dx []) ∧ Q .non (upd H p (.ins C dx [("kind", a), ("text", b), ("line", c), ("column", d)]))
theorem ok_Token___init__ {f C : Addr} {fd : FuncData} (F : Fun K "__init__" "Token.__init__" s_Token___init__ f fd) (T : CToken K C) : FnOk P w K mg base CX0 1 f fd ["self", "kind", "text", "line", "column"] (sp_Token___init__ C) := by
  refine F.ok sc_Token___init__ (fun vs H Q E h => ?_) (fun cdv A outer s H vs Q E hr h => ?_)
  · obtain ⟨p, dx, a, b, c, d, rfl, _⟩ := h
    rfl
  · obtain ⟨p, dx, a, b, c, d, rfl, hp, k⟩ := h
    refine ⟨_, (pss_cons (ps_fld (pv 0) (pv 1) rfl)
      (pss_cons (ps_fld (pv 0) (pv 2) rfl)
      (pss_cons (ps_fld (pv 0) (pv 3) rfl)
      (pss_one (ps_fld (pv 0) (pv 4) rfl))))), ?_⟩
    walk_at "rd"
    have t1 : (0 < 1000) = True := eq_true (by decide)
    simp only [hp, Option.some.injEq, HO.ins.injEq, exists_eq_left', exists_eq_left, and_assoc, exists_and_left, T.cl, T.n1, T.n2, T.n3, T.n4, true_and, upd_same, upd_upd, putF_nil, putF_cons, n_kind_text, n_kind_line, n_kind_column, n_text_kind, n_text_line, n_text_column, n_line_kind, n_line_text, n_line_column, n_column_kind, n_column_text, n_column_line, if_false, List.length_cons, List.length_nil, exists_eq', Nat.reduceAdd, Nat.reduceLT]
    exact k
end
theorem tok_in {C : Addr} {H1 : Hp} {Q : VK} {E : XK} {a b c d : V} (h : ∀ x H2, H1 x = none → Same H1 H2 → (∃ dx, H2 x = some (.ins C dx [("kind", a), ("text", b), ("line", c), ("column", d)])) → Q (.ref x) H2) :
    ∀ x dx, H1 x = none → H1 dx = none → dx ≠ x → sp_Token___init__ C [.ref x, a, b, c, d] (upd (upd H1 dx (.own x)) x (.ins C dx [])) (fun v H2 => v = .non ∧ Q (.ref x) H2) E := by
  intro x dx hx hd hne
  refine ⟨x, dx, a, b, c, d, rfl, upd_same, rfl, h x _ hx ?_ ⟨dx, upd_same⟩⟩
  rw [upd_upd]
  exact same_mut (same_new hd) hx
section
variable {P : Program} {w : World} {K : PySem.W.Frag} {mg : Str → Option Value} {base : Heap}
theorem sc__token_at : FnScope ["row", "line", "column", "word", "number"] ["row", "line", "column"] (defScope s__token_at) := ⟨rfl, rfl, rfl, by decide +kernel, rfl, by decide +kernel, by decide +kernel⟩
def sp__token_at (C CS : Addr) : Sp := fun vs H Q E => ∃ (row : List Nat) (ln c : Nat), vs = [.str (S row), .int (ln : Nat), .int (c : Nat)] ∧ c < row.length ∧ row.length ≤ 100000 ∧ ln ≤ 100000 ∧
  (∀ t, tokAt row ln c = some t → ∀ p H', H p = none → Same H H' → TokAt C H' p t → Q (.ref p) H') ∧ (tokAt row ln c = none → ESyn CS H E ln c)
theorem run_le {al row : List Nat} {c : Nat} : (run al row c).length ≤ row.length := by
  unfold run
  have h1 := (List.takeWhile_sublist (fun x => decide (x ∈ al)) (l := row.drop c)).length_le
  rw [List.length_drop] at h1
  omega
theorem ok__token_at {f C CS CC : Addr} {fd : FuncData} (F : Fun K "_token_at" "_token_at" s__token_at f fd) (T : TopF w K mg) (TE : TErr P w K mg base CS CC)
    (D_Token : DC P w K mg base CX0 1 C "Token" ["self", "kind", "text", "line", "column"] (sp_Token___init__ C)) (D__run_of : DF P w K mg base CX0 1 "_run_of" ["allowed", "row", "column"] sp__run_of)
    (D__word_kind : DF P w K mg base CX0 1 "_word_kind" ["word"] sp__word_kind) (D__is_number : DF P w K mg base CX0 1 "_is_number" ["digits"] sp__is_number) :
    FnOk P w K mg base (L2.CX P w) 6 f fd ["row", "line", "column"] (sp__token_at C CS) := by
  refine F.okX sc__token_at (fun vs H Q E h => ?_) (fun cdv A outer s H vs Q E hr h => ?_)
  · obtain ⟨row, ln, c, rfl, _⟩ := h
    rfl
  · obtain ⟨row, ln, c, rfl, hc, hl, hln, kY, kN⟩ := h
    refine ⟨_, (pss_cons (ps_if (pt_cmpR op_eq (pe_ix ix_str (pv 0) (pv 2) (fun _ _ => rfl)) pe_str (nomark _)) (pss_one (ps_ret (pe_make D_Token.M D_Token.G (hr.mono (by decide)) rfl D_Token.mg D_Token.b .nil pass0 (pa_cons pe_str (pa_cons pe_str (pa_cons (pv 1) (pa_cons (pv 2) pa_nil))))))) pss_nil)
      (pss_cons (ps_set (i := 3) sc__token_at.nd rfl (Or.inl rfl) (pe_call D__run_of.G (hr.mono (by decide)) rfl D__run_of.mg D__run_of.kp D__run_of.b .nil pass0 (pa_cons (pe_glob (v := .str (S letters)) rfl T.g_LETTERS.choose_spec ⟨_, rfl⟩) (pa_cons (pv 0) (pa_cons (pv 2) pa_nil)))))
      (pss_cons (ps_if (PW.pt (pw_and (pt_cmpR op_ne (pv 3) pe_str (nomark _)) (pw_and1 (pt_cmpR op_le (pe_callB call_len_str (by rfl) T.z_len (by decide +kernel) (pa_cons (pv 3) pa_nil)) (pe_glob (v := .int 8) rfl T.g_MOST_LETTERS.choose_spec ⟨_, rfl⟩) (nomark _))))) (pss_one (ps_ret (pe_make D_Token.M D_Token.G (hr.mono (by decide)) rfl D_Token.mg D_Token.b .nil pass0 (pa_cons (pe_call D__word_kind.G (hr.mono (by decide)) rfl D__word_kind.mg D__word_kind.kp D__word_kind.b .nil pass0 (pa_cons (pv 3) pa_nil)) (pa_cons (pv 3) (pa_cons (pv 1) (pa_cons (pv 2) pa_nil))))))) pss_nil)
      (pss_cons (ps_set (i := 4) sc__token_at.nd rfl (Or.inl rfl) (pe_call D__run_of.G (hr.mono (by decide)) rfl D__run_of.mg D__run_of.kp D__run_of.b .nil pass0 (pa_cons (pe_glob (v := .str (S digits)) rfl T.g_DIGITS.choose_spec ⟨_, rfl⟩) (pa_cons (pv 0) (pa_cons (pv 2) pa_nil)))))
      (pss_cons (ps_if (pt_val (pe_call D__is_number.G (hr.mono (by decide)) rfl D__is_number.mg D__is_number.kp D__is_number.b .nil pass0 (pa_cons (pv 4) pa_nil))) (pss_one (ps_ret (pe_make D_Token.M D_Token.G (hr.mono (by decide)) rfl D_Token.mg D_Token.b .nil pass0 (pa_cons pe_str (pa_cons (pv 4) (pa_cons (pv 1) (pa_cons (pv 2) pa_nil))))))) pss_nil)
      (pss_one (ps_raise rfl (takes_of rfl rfl rfl rfl) (pmk_syn TE (hr.mono (by decide)) (pa_cons (pv 1) (pa_cons (pv 2) pa_nil)))))))))), ?_⟩
    walk_at "rd"
    refine ⟨line_of (by rw [S_len]; exact hl), row[c], atI_nat (j := c) (by simp [hc]), ?_⟩
    have hget : row[c]? = some row[c] := by simp [hc]
    have e0 : (⟨#[row[c]]⟩ : Str) = S [row[c]] := rfl
    simp only [e0, str_semi, S_eq, List.cons.injEq, and_true, decide_eq_true_eq]
    unfold tokAt at kY kN
    rw [hget] at kY kN
    simp only [Option.some.injEq] at kY kN
    by_cases h59 : row[c] = 59
    · simp only [h59, if_true] at kY ⊢
      exact tok_in fun x H2 nx s2 hx => kY _ rfl x H2 nx s2 hx
    · simp only [h59, if_false] at kY kN ⊢
      refine ⟨letters, row, c, rfl, by omega, hl, ?_⟩
      have hcr : (run letters row c).length ≤ 100000 := Nat.le_trans run_le hl
      have hcd : (run digits row c).length ≤ 100000 := Nat.le_trans run_le hl
      have num : ¬ (run letters row c ≠ [] ∧ (run letters row c).length ≤ 8) → sp__run_of [V.str (S digits), V.str (S row), V.int ↑c] H
            (fun x_1 H1 =>
              sp__is_number [x_1] H1
                (fun x_2 H1 =>
                  ∃ c_1,
                    x_2 = V.bl c_1 ∧
                      if c_1 = true then
                        ∀ (x dx : Addr),
                          H1 x = none →
                            H1 dx = none →
                              ¬ dx = x →
                                sp_Token___init__ C [V.ref x, V.str (Str.ofString "number"), x_1, V.int ↑ln, V.int ↑c]
                                  (upd (upd H1 dx (HO.own x)) x (HO.ins C dx []))
                                  (fun v H2 => v = V.non ∧ Q (V.ref x) H2) E0
                      else ∃ i : Nat, ((ln : Nat) : Int) = (i : Nat) ∧ ∃ j : Nat, ((c : Nat) : Int) = (j : Nat) ∧ i ≤ 1000000 ∧ j ≤ 1000000 ∧ ESyn CS H1 E i j)
                E0)
            E0 := by
        intro hk
        rw [if_neg hk] at kY kN
        refine ⟨digits, row, c, rfl, by omega, hl, _, rfl, hcd, _, rfl, ?_⟩
        cases hn : isNumber (run digits row c) with
        | true =>
          rw [hn] at kY
          rw [if_pos rfl, str_number]
          exact tok_in fun x H2 nx s2 hx => kY _ rfl x H2 nx s2 hx
        | false =>
          rw [hn] at kN
          rw [if_neg Bool.false_ne_true]
          exact ⟨ln, rfl, c, rfl, by omega, by omega, kN rfl⟩
      by_cases h1 : run letters row c = []
      · have hk1 : ¬ (run letters row c ≠ [] ∧ (run letters row c).length ≤ 8) := fun z => z.1 h1
        walk_at "rd"
        rw [h1]
        walk_at "rd"
        rw [if_neg (by simp [str_empty])]
        exact num hk1
      · walk_at "rd"
        rw [if_pos (by simp [str_empty, S_eq, h1])]
        by_cases h8 : (run letters row c).length ≤ 8
        · rw [if_pos ⟨h1, h8⟩] at kY
          refine ⟨line_of (by rw [S_len]; exact hcr), ?_⟩
          rw [S_len, if_pos (by omega)]
          refine ⟨_, rfl, ?_⟩
          exact tok_in fun x H2 nx s2 hx => kY _ rfl x H2 nx s2 hx
        · refine ⟨line_of (by rw [S_len]; exact hcr), ?_⟩
          rw [S_len, if_neg (by omega)]
          exact num fun z => h8 z.2
end

end Wv
end WvL2_
section WvL3_
set_option Elab.async false
set_option linter.all false
set_option maxRecDepth 100000
set_option maxHeartbeats 4000000
namespace Wv
open PySem L2
open SX (S S_len S_inj)
local macro_rules | `(tactic| walk_at "rd") => `(tactic| (try simp only [tVar, tC, tB, tAnd, tOr, tNot, tAndV, tOrV, tNotV, tIf, tNext, tSeq, tBreak, tCont, tDrop, tRet, tRetN, tIfS, gName, gNil, gCons, gTup, gSub, tAsg, tPar, tAug, tOp, tUn, rI, rI0, rU, rEq, rNe, tTest, tFld, tNil, tCons, tTup, tLst, tCB, tNoPart, tPart, tSl, rIxL, rIxT, rIxS, rSlL, rSlS, tBM0, tBM, rAppend, rExtend, rCat, rRep, rSetL, tM0, tM1, tCall, tMeth, tMake, sFld, sFldAug, rAdd, rSub, ipI, tBM0,
  scal_ss, scal_ii, scal_bb, scal_ns, scal_sn, scal_nn, tyV_str, L2.start, List.map_cons, List.map_nil, List.length_cons, List.length_nil, List.replicate, List.cons_append, List.nil_append, List.append_nil, List.getElem?_cons_zero, List.getElem?_cons_succ, List.set_cons_zero, List.set_cons_succ, Nat.reduceAdd, Nat.reduceSub, Nat.zero_add, Nat.sub_self, Nat.add_one_sub_one,
  Option.some.injEq, exists_eq_left, exists_eq_left', exists_eq', exists_eq, V.int.injEq, V.str.injEq, V.ref.injEq, V.bl.injEq, reduceCtorEq, List.cons.injEq, and_true, true_and, exists_and_left, exists_and_right, and_assoc, decide_true, decide_false, if_true, if_false, ite_true, ite_false, Bool.false_eq_true, Bool.true_eq_false, eq_self_iff_true, cx_K, nox_K, tMkSyn, tMkChk, tYes, bne, ne_eq, not_false_eq_true, not_true_eq_false, Bool.not_true, Bool.not_false, decide_eq_true_eq, Bool.not_eq_true', decide_eq_false_iff_not]))
theorem tokAt_pos {row : List Nat} {ln c : Nat} {t : WTok} (h : tokAt row ln c = some t) : 1 ≤ t.text.length ∧ t.text.length ≤ row.length ∧ t.line = ln ∧ t.col = c := by
  unfold tokAt at h
  by_cases h1 : row[c]? = some 59
  · rw [if_pos h1] at h
    have h2 := (List.getElem?_eq_some_iff.mp h1).1
    cases h
    exact ⟨Nat.le_refl _, by show 1 ≤ row.length; omega, rfl, rfl⟩
  · rw [if_neg h1] at h
    by_cases h2 : run letters row c ≠ [] ∧ (run letters row c).length ≤ 8
    · rw [if_pos h2] at h
      cases h
      exact ⟨List.length_pos_iff.mpr h2.1, run_le, rfl, rfl⟩
    · rw [if_neg h2] at h
      cases hn : isNumber (run digits row c) with
      | false => rw [hn] at h; cases h
      | true =>
        rw [hn] at h
        cases h
        refine ⟨List.length_pos_iff.mpr fun e => ?_, run_le, rfl, rfl⟩
        have e' : run digits row c = [] := e
        rw [e'] at hn
        exact absurd hn (by decide)
section
variable {P : Program} {w : World} {K : PySem.W.Frag} {mg : Str → Option Value} {base : Heap}
theorem sc__row_tokens : FnScope ["row", "line", "tokens", "column", "token"] ["row", "line"] (defScope s__row_tokens) := ⟨rfl, rfl, rfl, by decide +kernel, rfl, by decide +kernel, by decide +kernel⟩
def sp__row_tokens (C CS : Addr) : Sp := fun vs H Q E => ∃ (row : List Nat) (ln : Nat), vs = [.str (S row), .int (ln : Nat)] ∧ row.length ≤ 100000 ∧ ln ≤ 100000 ∧
  (∀ ts, rowToks row ln = .ok ts → ts.length ≤ row.length → ∀ p H', H p = none → Same H H' → LstAt (TokAt C) H' p ts → Q (.ref p) H') ∧ (∀ l c, rowToks row ln = .error (l, c) → ESyn CS H E l c)
def IRow (C : Addr) (row : List Nat) (ln : Nat) (l : Addr) (H : Hp) (m : Nat) (σ : L2.St) (H' : Hp) : Prop :=
  ∃ (c : Nat) (as : List Addr) (ts : List WTok) (v : Option V), σ = [some (.str (S row)), some (.int (ln : Nat)), some (.ref l), some (.int (c : Nat)), v] ∧ Same H H' ∧ H' l = some (.lst (as.map V.ref)) ∧ Each (TokAt C H') as ts ∧
        row.length ≤ c + m ∧ ts.length + m ≤ row.length ∧ rowToks row ln = (match rowFrom row ln m c with | .ok us => .ok (ts ++ us) | .error e => .error e)
theorem ok__row_tokens {f C CS CC : Addr} {fd : FuncData} (F : Fun K "_row_tokens" "_row_tokens" s__row_tokens f fd) (T : TopF w K mg) (TC : CToken K C)
    (D__token_at : DF P w K mg base (L2.CX P w) 6 "_token_at" ["row", "line", "column"] (sp__token_at C CS)) :
    FnOk P w K mg base (L2.CX P w) 7 f fd ["row", "line"] (sp__row_tokens C CS) := by
  refine F.okX sc__row_tokens (fun vs H Q E h => ?_) (fun cdv A outer s H vs Q E hr h => ?_)
  · obtain ⟨row, ln, rfl, _⟩ := h
    rfl
  · obtain ⟨row, ln, rfl, hl, hln, kY, kN⟩ := h
    refine ⟨_, (pss_cons (ps_set (i := 2) sc__row_tokens.nd rfl (Or.inl rfl) (pe_lst pa_nil))
      (pss_cons (ps_set (i := 3) sc__row_tokens.nd rfl (Or.inl rfl) pe_int)
      (pss_cons (ps_while (passes_of rfl) (pt_cmpR op_lt (pv 3) (pe_callB call_len_str (by rfl) T.z_len (by decide +kernel) (pa_cons (pv 0) pa_nil)) (nomark _)) (pss_one (ps_if (pt_cmpR op_eq (pe_ix ix_str (pv 0) (pv 3) (fun _ _ => rfl)) pe_str (nomark _)) (pss_one (ps_aug (i := 3) sc__row_tokens.nd rfl (Or.inl rfl) pe_int ip_add)) (pss_cons (ps_set (i := 4) sc__row_tokens.nd rfl (Or.inl rfl) (pe_call D__token_at.G (hr.mono (by decide)) rfl D__token_at.mg D__token_at.kp D__token_at.b .nil (passes_call (takes_of rfl rfl rfl rfl) fun _ _ _ _ z => z) (pa_cons (pv 0) (pa_cons (pv 1) (pa_cons (pv 3) pa_nil)))))
      (pss_cons (ps_expr (pe_bm PySem.F.plainAttrs_list PySem.F.slot_list_append PySem.F.type_list_append mt_append (pv 2) (pa_cons (pv 4) pa_nil)))
      (pss_one (ps_aug (i := 3) sc__row_tokens.nd rfl (Or.inl rfl) (pe_callB call_len_str (by rfl) T.z_len (by decide +kernel) (pa_cons (pe_fld (pv 4) rfl) pa_nil)) ip_add)))))))
      (pss_one (ps_ret (pv 2)))))), ?_⟩
    walk_at "rd"
    refine ⟨Nat.zero_le _, fun l hl0 => ?_⟩
    refine ⟨IRow C row ln l H,
      ⟨row.length, 0, [], [], none, rfl, same_new hl0, upd_same, Each.nil, by omega, by simp, ?_⟩, ?_⟩
    · show rowFrom row ln row.length 0 = _
      cases rowFrom row ln row.length 0 <;> simp
    rintro m σ H' ⟨c, as, ts, v, rfl, s1, hL, hE, hm, hts, hres⟩
    walk_at "rd"
    refine ⟨line_of (by rw [S_len]; exact hl), ?_⟩
    rw [S_len]
    by_cases hc : c < row.length
    · rw [if_pos (by omega)]
      cases m with
      | zero => omega
      | succ m =>
      refine ⟨_, fun _ _ z => z, ?_⟩
      refine ⟨line_of (by first | exact hl | (rw [S_len]; exact hl)), row[c], atI_nat (j := c) (by simp [hc]), ?_⟩
      have e0 : (⟨#[row[c]]⟩ : Str) = S [row[c]] := rfl
      have hget : row[c]? = some row[c] := by simp [hc]
      rw [str_blank]
      rw [rowFrom, if_pos hc, hget] at hres
      simp only [Option.some.injEq] at hres
      by_cases h32 : row[c] = 32
      · rw [if_pos (by rw [e0, h32])]
        rw [if_pos h32] at hres
        refine ⟨m, Nat.lt_succ_self _, c + 1, as, ts, v, by simp, s1, hL, hE, by omega, by omega, hres⟩
      · rw [if_neg (by rw [S_eq]; simpa using h32)]
        rw [if_neg h32] at hres
        refine ⟨row, ln, c, rfl, hc, hl, hln, fun t ht p H2 hp s2 hT => ?_, fun ht => ?_⟩
        · rw [ht] at hres
          dsimp only at hres
          obtain ⟨q1, q2, _, _⟩ := tokAt_pos ht
          have hL2 := s2 _ _ hL
          walk_at "rd"
          refine ⟨tyV_lst hL2, as.map V.ref, hL2, line_lt (by rw [List.length_map, hE.1]; omega), ?_⟩
          have hpl : p ≠ l := fun e => by
            rw [e, hL] at hp
            cases hp
          obtain ⟨dx, hT'⟩ := id hT
          have hT2 : upd H2 l (.lst (as.map V.ref ++ [V.ref p])) p = some (.ins C dx [("kind", .str (S t.kind)), ("text", .str (S t.text)), ("line", .int (t.line : Nat)), ("column", .int (t.col : Nat))]) := by
            rw [upd_ne hpl]
            exact hT'
          refine ⟨C, dx, _, hT2, TC.cl, TC.n2, ?_⟩
          refine ⟨.str (S t.text), by simp only [lookup_put, n_text_kind, if_false, if_true], _, rfl, line_of (by rw [S_len]; omega), ?_⟩
          have sN : ∀ a u, TokAt C H' a u → TokAt C (upd H2 l (.lst (as.map V.ref ++ [V.ref p]))) a u := fun a u ⟨dy, hy⟩ => ⟨dy, by
            rw [upd_ne (ne_of hy hL (by intro z; cases z))]
            exact s2 _ _ hy⟩
          refine ⟨m, Nat.lt_succ_self _, c + t.text.length, as ++ [p], ts ++ [t], some (.ref p), by simp [S_len], ?_, by rw [upd_same]; simp, (hE.imp sN).snoc ⟨dx, hT2⟩, by omega, by simp; omega, ?_⟩
          · exact same_mut (s1.trans s2) hl0
          · rw [hres]
            generalize rowFrom row ln m (c + t.text.length) = z
            cases z <;> simp
        · rw [ht] at hres
          exact (kN ln c hres).mono s1
    · rw [if_neg (by omega)]
      have : rowFrom row ln m c = .ok [] := by
        cases m with
        | zero => rfl
        | succ m => rw [rowFrom, if_neg hc]
      rw [this] at hres
      simp only [List.append_nil] at hres
      exact kY ts hres (by omega) l H' hl0 s1 ⟨as, hL, hE⟩
end

section
variable {P : Program} {w : World} {K : PySem.W.Frag} {mg : Str → Option Value} {base : Heap}
theorem sc_count_lines : FnScope ["plan"] ["plan"] (defScope s_count_lines) := ⟨rfl, rfl, rfl, by decide +kernel, rfl, by decide +kernel, by decide +kernel⟩
def sp_count_lines : Sp := fun vs H Q _ => ∃ z : List Nat, vs = [.str (S z)] ∧ Q (.int ((rowsOf z).length : Nat)) H
theorem rows_count (z : List Nat) : Txt.count (S z) (S [10]) + 1 = ((rowsOf z).length : Nat) := by
  have h1 := PyProof.Rows.split_len (S z) 10
  have h2 : Txt.split (S z) ⟨#[10]⟩ = (rowsOf z).map S := SX.split_S (a := z) (b := [10]) (by decide) (by decide)
  rw [h2, List.length_map] at h1
  have h3 : Txt.count (S z) (S [10]) = PyProof.Rows.cnt 10 z := PyProof.Rows.count_is (S z) 10
  have h4 : (S z).cps.toList = z := rfl
  rw [h4] at h1
  rw [h3, h1]
  omega
theorem ok_count_lines {f : Addr} {fd : FuncData} (F : Fun K "count_lines" "count_lines" s_count_lines f fd) : FnOk P w K mg base CX0 1 f fd ["plan"] sp_count_lines := by
  refine F.ok sc_count_lines (fun vs H Q E h => ?_) (fun cdv A outer s H vs Q E hr h => ?_)
  · obtain ⟨z, rfl, _⟩ := h
    rfl
  · obtain ⟨z, rfl, k⟩ := h
    refine ⟨_, (pss_one (ps_ret (pe_op op_add (pe_bm PySem.F.plainAttrs_str PySem.F.slot_str_count PySem.F.type_str_count mt_count (pv 0) (pa_cons pe_str pa_nil)) pe_int))), ?_⟩
    walk_at "rd"
    rw [str_lf, rows_count]
    exact k
theorem sc_read_tokens : FnScope ["plan", "tokens", "line", "row"] ["plan"] (defScope s_read_tokens) := ⟨rfl, rfl, rfl, by decide +kernel, rfl, by decide +kernel, by decide +kernel⟩
def sp_read_tokens (C CS : Addr) : Sp := fun vs H Q E => ∃ z : List Nat, vs = [.str (S z)] ∧ z.length ≤ 40000 ∧
  (∀ ts, lex z = .ok ts → ts.length ≤ z.length → ∀ p H', H p = none → Same H H' → LstAt (TokAt C) H' p ts → Q (.ref p) H') ∧ (∀ l c, lex z = .error (l, c) → ESyn CS H E l c)
theorem rows_weight (z : List Nat) : ((rowsOf z).map List.length).sum + (rowsOf z).length ≤ z.length + 1 := by
  have h := PyProof.Rows.split_weight (S z) (S [10]) (by decide)
  have h2 : Txt.split (S z) (S [10]) = (rowsOf z).map S := SX.split_S (a := z) (b := [10]) (by decide) (by decide)
  rw [h2, List.length_map, S_len, SX.lens] at h
  exact h
theorem row_le {z : List Nat} {i : Nat} (hi : i < (rowsOf z).length) : (rowsOf z)[i].length ≤ z.length := by
  have h1 := rows_weight z
  have h2 : (rowsOf z)[i].length ≤ ((rowsOf z).map List.length).sum := by
    have : ∀ (l : List (List Nat)) (r : List Nat), r ∈ l → r.length ≤ (l.map List.length).sum := by
      intro l
      induction l with
      | nil => intro r h; cases h
      | cons a l ih =>
        intro r h
        rw [List.map_cons, List.sum_cons]
        rcases List.mem_cons.mp h with rfl | h
        · omega
        · have := ih r h
          omega
    exact this _ _ (List.getElem_mem hi)
  omega
theorem take_sum_le (l : List (List Nat)) (i : Nat) : ((l.take i).map List.length).sum ≤ (l.map List.length).sum := by
  induction l generalizing i with
  | nil => simp
  | cons a l ih =>
    cases i with
    | zero => simp
    | succ i =>
      have := ih i
      simp only [List.take_succ_cons, List.map_cons, List.sum_cons]
      omega
def ILex (K : PySem.W.Frag) (C : Addr) (z : List Nat) (l q : Addr) (H : Hp) (i : Nat) (σ : L2.St) (H' : Hp) : Prop :=
  ∃ (v1 v2 : Option V) (as : List Addr) (ts : List WTok), σ = [some (.str (S z)), some (.ref l), v1, v2] ∧ Same H H' ∧ H' l = some (.lst (as.map V.ref)) ∧ Each (TokAt C H') as ts ∧ H' q = some (.lst (((rowsOf z).map S).map V.str)) ∧
    ts.length ≤ (((rowsOf z).take i).map List.length).sum ∧ lex z = (match lexFrom i ((rowsOf z).drop i) with | .ok us => .ok (ts ++ us) | .error e => .error e)
theorem ok_read_tokens {f C CS CC : Addr} {fd : FuncData} (F : Fun K "read_tokens" "read_tokens" s_read_tokens f fd) (T : TopF w K mg) (TC : CToken K C) (TE : TErr P w K mg base CS CC)
    (D__row_tokens : DF P w K mg base (L2.CX P w) 7 "_row_tokens" ["row", "line"] (sp__row_tokens C CS)) :
    FnOk P w K mg base (L2.CX P w) 8 f fd ["plan"] (sp_read_tokens C CS) := by
  refine F.okX sc_read_tokens (fun vs H Q E h => ?_) (fun cdv A outer s H vs Q E hr h => ?_)
  · obtain ⟨z, rfl, _⟩ := h
    rfl
  · obtain ⟨z, rfl, hl, kY, kN⟩ := h
    refine ⟨_, (pss_cons (ps_if (pt_not (pt_val (pe_callB call_isi (by rfl) T.z_isinstance (by decide +kernel) (pa_cons (pv 0) (pa_cons (pe_bltn (v := .ty "str") (by rfl) T.z_str (by decide +kernel) rfl) pa_nil))))) (pss_one (ps_raise rfl (takes_of rfl rfl rfl rfl) (pmk_syn TE (hr.mono (by decide)) (pa_cons pe_int (pa_cons pe_int pa_nil))))) pss_nil)
      (pss_cons (ps_set (i := 1) sc_read_tokens.nd rfl (Or.inl rfl) (pe_lst pa_nil))
      (pss_cons (ps_for (passes_of rfl) rfl (pi_enum (by rfl) T.z_enumerate (pa_cons (pe_split (pv 0) pe_str) pa_nil)) (pg_tup (by rfl) (pgs_cons (pg_name (i := 2) sc_read_tokens.nd rfl (Or.inl rfl)) (pgs_cons (pg_name (i := 3) sc_read_tokens.nd rfl (Or.inl rfl)) pgs_nil))) (pss_one (ps_expr (pe_bm PySem.F.plainAttrs_list PySem.F.slot_list_extend PySem.F.type_list_extend mt_extend (pv 1) (pa_cons (pe_call D__row_tokens.G (hr.mono (by decide)) rfl D__row_tokens.mg D__row_tokens.kp D__row_tokens.b .nil (passes_call (takes_of rfl rfl rfl rfl) fun _ _ _ _ z => z) (pa_cons (pv 3) (pa_cons (pv 2) pa_nil))) pa_nil)))))
      (pss_one (ps_ret (pv 1)))))), ?_⟩
    walk_at "rd"
    refine ⟨.str (S z), .ty "str", _, _, true, rfl, .ty "str", .base (.str _), kit_ty (by decide +kernel), ?_⟩
    walk_at "rd"
    refine ⟨Nat.zero_le _, fun l hl0 => ?_⟩
    refine ⟨_, rfl, ⟨_, rfl⟩, S z, rfl, _, rfl, by rw [str_lf]; rfl, by rw [S_len]; exact line_of (by omega), fun q hq => ?_⟩
    have hlq : l ≠ q := fun e => by
      rw [e, upd_same] at hq
      cases hq
    have hq0 : H q = none := by
      rw [upd_ne hlq.symm] at hq
      exact hq
    have hrows : Txt.split (S z) (Str.ofString "\n") = (rowsOf z).map S := by
      rw [str_lf]
      exact SX.split_S (by decide) (by decide)
    rw [hrows]
    refine ⟨q, _, rfl, SqL.of upd_same, ?_⟩
    refine for_it (walk_enum (xs := ((rowsOf z).map S).map V.str)) (ILex K C z l q H) ?_ (fun i σ H' _ h => ?_) ?_ ?_
    · refine ⟨none, none, [], [], rfl, same_mut (same_mut (Same.refl H) hl0) hq0, ?_, Each.nil, upd_same, by simp, ?_⟩
      · rw [upd_ne hlq, upd_same]
        rfl
      · show lexFrom 0 (rowsOf z) = _
        rw [List.drop_zero]
        generalize lexFrom 0 (rowsOf z) = y
        cases y <;> simp
    · obtain ⟨_, _, _, _, _, _, _, _, hQ, _⟩ := h
      exact SqL.of hQ
    · rintro i x σ H1 H2 hi ⟨v1, v2, as, ts, rfl, s1, hL, hE, hQ, hlen, hres⟩ ⟨tp, x1, x2, rfl, hT, rfl, e1, e2⟩
      rw [List.length_map, List.length_map] at hi
      cases e1
      have e2' : x2 = V.str (S (rowsOf z)[i]) := by
        dsimp only at e2
        rw [List.getElem?_map, List.getElem?_map, List.getElem?_eq_getElem hi] at e2
        exact (Option.some.inj e2).symm
      subst e2'
      have hrow := row_le hi
      have hw := rows_weight z
      have hTq : tp ≠ q := fun e => by
        rw [e, hQ] at hT
        cases hT
      have hTl : tp ≠ l := fun e => by
        rw [e, hL] at hT
        cases hT
      have sT : Same H1 (upd H1 tp (.tup [.int (i : Nat), .str (S (rowsOf z)[i])])) := same_new hT
      walk_at "rd"
      refine ⟨_, SqT.of upd_same, rfl, ?_⟩
      walk_at "rd"
      have hL2 : upd H1 tp (.tup [.int (i : Nat), .str (S (rowsOf z)[i])]) l = some (.lst (as.map V.ref)) := sT _ _ hL
      refine ⟨tyV_lst hL2, ?_⟩
      rw [List.drop_eq_getElem_cons hi, lexFrom] at hres
      refine ⟨(rowsOf z)[i], i, rfl, by omega, by omega, fun us hus hul p H2 hp s2 hLp => ?_, fun a c hac => ?_⟩
      · rw [hus] at hres
        dsimp only at hres
        obtain ⟨bs, hbl, hbE⟩ := hLp
        have hL3 := s2 _ _ hL2
        refine ⟨p, rfl, as.map V.ref, hL3, bs.map V.ref, hbl, line_of ?_, ?_⟩
        · have h1 := take_sum_le (rowsOf z) i
          have h2 := hE.1
          have h3 := hbE.1
          rw [List.length_map, List.length_map]
          omega
        · have hpl : H p = none := s1.free (sT.free hp)
          have hne : l ≠ p := fun e => by
            rw [e] at hL2
            rw [hL2] at hp
            cases hp
          have sN : ∀ a u, TokAt C H2 a u → TokAt C (upd H2 l (.lst (as.map V.ref ++ bs.map V.ref))) a u := fun a u ⟨dy, hy⟩ => ⟨dy, by
            rw [upd_ne (ne_of hy hL3 (by intro z; cases z))]
            exact hy⟩
          have sO : ∀ a u, TokAt C H1 a u → TokAt C H2 a u := fun a u h => (h.mono sT).mono s2
          have hql : q ≠ l := hlq.symm
          refine ⟨_, _, as ++ bs, ts ++ us, rfl, same_mut (s1.trans (sT.trans s2)) hl0, by rw [upd_same, List.map_append], ((hE.imp sO).append hbE).imp sN, ?_, ?_, ?_⟩
          · rw [upd_ne hql]
            exact s2 _ _ (sT _ _ hQ)
          · rw [List.take_add_one, List.getElem?_eq_getElem hi]
            simp only [Option.toList_some, List.map_append, List.map_cons, List.map_nil, List.sum_append, List.sum_cons, List.sum_nil, List.length_append]
            omega
          · rw [hres]
            generalize lexFrom (i + 1) ((rowsOf z).drop (i + 1)) = y
            cases y <;> simp
      · rw [hac] at hres
        exact (kN a c hres).mono (s1.trans sT)
    · rintro σ H1 ⟨v1, v2, as, ts, rfl, s1, hL, hE, hQ, hlen, hres⟩
      walk_at "rd"
      have hd : lexFrom (((rowsOf z).map S).map V.str).length ((rowsOf z).drop (((rowsOf z).map S).map V.str).length) = .ok [] := by
        rw [List.length_map, List.length_map, List.drop_length]
        rfl
      rw [hd] at hres
      simp only [List.append_nil] at hres
      have h1 := take_sum_le (rowsOf z) (((rowsOf z).map S).map V.str).length
      have h2 := rows_weight z
      have h3 := PyProof.Rows.split_pos (S z) (S [10])
      have h4 : Txt.split (S z) (S [10]) = (rowsOf z).map S := SX.split_S (a := z) (b := [10]) (by decide) (by decide)
      rw [h4, List.length_map] at h3
      exact kY ts hres (by omega) l H1 hl0 s1 ⟨as, hL, hE⟩
end

end Wv
end WvL3_
section WvP1_
set_option Elab.async false
set_option linter.all false
set_option maxRecDepth 100000
set_option maxHeartbeats 4000000
namespace Wv
open PySem L2
open SX (S S_len S_inj)
local macro_rules | `(tactic| walk_at "rd") => `(tactic| (try simp only [tVar, tC, tB, tAnd, tOr, tNot, tAndV, tOrV, tNotV, tIf, tNext, tSeq, tBreak, tCont, tDrop, tRet, tRetN, tIfS, gName, gNil, gCons, gTup, gSub, tAsg, tPar, tAug, tOp, tUn, rI, rI0, rU, rEq, rNe, tTest, tFld, tNil, tCons, tTup, tLst, tCB, tNoPart, tPart, tSl, rIxL, rIxT, rIxS, rSlL, rSlS, tBM0, tBM, rAppend, rExtend, rCat, rRep, rSetL, tM0, tM1, tCall, tMeth, tMake, sFld, sFldAug, rAdd, rSub, ipI, tBM0,
  scal_ss, scal_ii, scal_bb, scal_ns, scal_sn, scal_nn, tyV_str, L2.start, List.map_cons, List.map_nil, List.length_cons, List.length_nil, List.replicate, List.cons_append, List.nil_append, List.append_nil, List.getElem?_cons_zero, List.getElem?_cons_succ, List.set_cons_zero, List.set_cons_succ, Nat.reduceAdd, Nat.reduceSub, Nat.zero_add, Nat.sub_self, Nat.add_one_sub_one,
  Option.some.injEq, exists_eq_left, exists_eq_left', exists_eq', exists_eq, V.int.injEq, V.str.injEq, V.ref.injEq, V.bl.injEq, reduceCtorEq, List.cons.injEq, and_true, true_and, exists_and_left, exists_and_right, and_assoc, decide_true, decide_false, if_true, if_false, ite_true, ite_false, Bool.false_eq_true, Bool.true_eq_false, eq_self_iff_true, cx_K, nox_K, tMkSyn, tMkChk, tYes, bne, ne_eq, not_false_eq_true, not_true_eq_false, Bool.not_true, Bool.not_false, decide_eq_true_eq, Bool.not_eq_true', decide_eq_false_iff_not]))
/-! ### the parser's mirror -/
def Same1 (p : Addr) (H H' : Hp) : Prop := ∀ b o, b ≠ p → H b = some o → H' b = some o
theorem Same1.refl {p : Addr} (H : Hp) : Same1 p H H := fun _ _ _ h => h
theorem Same1.trans {p : Addr} {H H1 H2 : Hp} (a : Same1 p H H1) (b : Same1 p H1 H2) : Same1 p H H2 := fun c o n h => b c o n (a c o n h)
theorem Same1.upd {p : Addr} {H H' : Hp} {o : HO} (a : Same1 p H H') : Same1 p H (upd H' p o) := fun c u n h => by
  rw [upd_ne n]
  exact a c u n h
theorem Same1.of {p : Addr} {H H' : Hp} (a : Same H H') : Same1 p H H' := fun c u _ h => a c u h
theorem Same1.same {p : Addr} {H0 H H' : Hp} (e : Same H0 H) (h : H0 p = none) (a : Same1 p H H') : Same H0 H' := fun c u hc => a c u (ne_of_none hc h) (e c u hc)
structure ParAt (C CP : Addr) (H : Hp) (p dx l : Addr) (as : List Addr) (ts : List WTok) (L n : Nat) : Prop where
  ob : H p = some (.ins CP dx [("tokens", .ref l), ("lines", .int (L : Nat)), ("taken", .int (n : Nat))])
  ls : H l = some (.lst (as.map V.ref))
  ea : Each (TokAt C H) as ts
  bl : L ≤ 100000
  bt : ∀ t ∈ ts, t.line ≤ 100000 ∧ t.col ≤ 100000 ∧ t.kind ∈ kinds
def kindV (ts : List WTok) (n : Nat) : V := match ts[n]? with | none => .non | some t => .str (S t.kind)
def fault (L : Nat) (ts : List WTok) (n : Nat) : Nat × Nat := match ts[n]? with | none => (L, 0) | some t => (t.line, t.col)
theorem ParAt.tok {C CP : Addr} {H : Hp} {p dx l : Addr} {as : List Addr} {ts : List WTok} {L n : Nat} (P : ParAt C CP H p dx l as ts L n) {t : WTok} (h : ts[n]? = some t) : ∃ a, as[n]? = some a ∧ TokAt C H a t ∧ atI (as.map V.ref) ((n : Nat) : Int) = some (V.ref a) := by
  have hn : n < as.length := by
    rw [P.ea.1]
    exact (List.getElem?_eq_some_iff.mp h).1
  have ha : as[n]? = some as[n] := by simp [hn]
  exact ⟨as[n], ha, P.ea.2 n _ _ ha h, atI_nat (by rw [List.getElem?_map, ha]; rfl)⟩
theorem ParAt.step {C CP : Addr} {H H' : Hp} {p dx l : Addr} {as : List Addr} {ts : List WTok} {L n m : Nat} (P : ParAt C CP H p dx l as ts L n) (s : Same1 p H H') (h : H' p = some (.ins CP dx [("tokens", .ref l), ("lines", .int (L : Nat)), ("taken", .int (m : Nat))])) : ParAt C CP H' p dx l as ts L m := by
  have hl : l ≠ p := ne_of P.ls P.ob (by intro z; cases z)
  exact ⟨h, s _ _ hl P.ls, P.ea.imp fun a t ⟨dy, hy⟩ => ⟨dy, by
    by_cases e : a = p
    · rw [e] at hy
      have z := hy.symm.trans P.ob
      exfalso
      have z2 := Option.some.inj z
      injection z2 with e1 e2 e3
      cases e3
    · exact s _ _ e hy⟩, P.bl, P.bt⟩
section
variable {P : Program} {w : World} {K : PySem.W.Frag} {mg : Str → Option Value} {base : Heap}
theorem sc_Statement___init__ : FnScope ["self", "keyword"] ["self", "keyword"] (defScope s_Statement___init__) := ⟨rfl, rfl, rfl, by decide +kernel, rfl, by decide +kernel, by decide +kernel⟩
def sp_Statement___init__ (C : Addr) : Sp := fun vs H Q _ => ∃ (p dx : Addr) (a : V), vs = [.ref p, a] ∧ H p = some (.ins C dx []) ∧
  ∀ l m H', H l = none → H m = none → l ≠ m → Same1 p H H' → H' l = some (.lst []) → H' m = some (.lst []) → H' p = some (.ins C dx [("keyword", a), ("names", .ref l), ("numbers", .ref m)]) → Q .non H'
theorem ok_Statement___init__ {f C : Addr} {fd : FuncData} (F : Fun K "__init__" "Statement.__init__" s_Statement___init__ f fd) (T : CStatement K C) : FnOk P w K mg base CX0 1 f fd ["self", "keyword"] (sp_Statement___init__ C) := by
  refine F.ok sc_Statement___init__ (fun vs H Q E h => ?_) (fun cdv A outer s H vs Q E hr h => ?_)
  · obtain ⟨p, dx, a, rfl, _⟩ := h
    rfl
  · obtain ⟨p, dx, a, rfl, hp, k⟩ := h
    refine ⟨_, (pss_cons (ps_fld (pv 0) (pv 1) rfl)
      (pss_cons (ps_fld (pv 0) (pe_lst pa_nil) rfl)
      (pss_one (ps_fld (pv 0) (pe_lst pa_nil) rfl)))), ?_⟩
    walk_at "rd"
    simp only [hp, T.cl, T.n1, T.n2, T.n3, V.ref.injEq, V.int.injEq, V.str.injEq, List.cons.injEq, Option.some.injEq, HO.ins.injEq, and_assoc, exists_and_left, exists_eq_left', exists_eq_left, true_and, and_true, upd_same, upd_upd, putF_nil, putF_cons, lookup_put, lookup_nil, if_false, if_true, List.length_cons, List.length_nil, exists_eq', exists_eq, Nat.reduceAdd, Nat.reduceLT, Nat.zero_add, n_keyword_names, n_keyword_numbers, n_names_keyword, n_names_numbers, n_numbers_keyword, n_numbers_names]
    refine ⟨Nat.zero_le _, fun l hl => ?_⟩
    have hlp : l ≠ p := fun e => by
      rw [e, upd_same] at hl
      cases hl
    have hl0 : H l = none := by
      rw [upd_ne hlp] at hl
      exact hl
    have hp1 : upd (upd H p (.ins C dx [("keyword", a)])) l (.lst []) p = some (.ins C dx [("keyword", a)]) := by
      rw [upd_ne hlp.symm, upd_same]
    simp only [hp1, T.cl, T.n1, T.n2, T.n3, V.ref.injEq, V.int.injEq, V.str.injEq, List.cons.injEq, Option.some.injEq, HO.ins.injEq, and_assoc, exists_and_left, exists_eq_left', exists_eq_left, true_and, and_true, upd_same, upd_upd, putF_nil, putF_cons, lookup_put, lookup_nil, if_false, if_true, List.length_cons, List.length_nil, exists_eq', exists_eq, Nat.reduceAdd, Nat.reduceLT, Nat.zero_add, n_keyword_names, n_keyword_numbers, n_names_keyword, n_names_numbers, n_numbers_keyword, n_numbers_names]
    refine ⟨Nat.zero_le _, fun m hm => ?_⟩
    have hmp : m ≠ p := fun e => by
      rw [e, upd_same] at hm
      cases hm
    have hml : m ≠ l := fun e => by
      rw [e, upd_ne hlp, upd_same] at hm
      cases hm
    have hm0 : H m = none := by
      rw [upd_ne hmp, upd_ne hml, upd_ne hmp] at hm
      exact hm
    rw [upd_ne hmp.symm]
    simp only [T.cl, T.n1, T.n2, T.n3, V.ref.injEq, V.int.injEq, V.str.injEq, List.cons.injEq, Option.some.injEq, HO.ins.injEq, and_assoc, exists_and_left, exists_eq_left', exists_eq_left, true_and, and_true, upd_same, upd_upd, putF_nil, putF_cons, lookup_put, lookup_nil, if_false, if_true, List.length_cons, List.length_nil, exists_eq', exists_eq, Nat.reduceAdd, Nat.reduceLT, Nat.zero_add, n_keyword_names, n_keyword_numbers, n_names_keyword, n_names_numbers, n_numbers_keyword, n_numbers_names]
    refine k l m _ hl0 hm0 hml.symm (fun b o hb e => ?_) ?_ ?_ upd_same
    · rw [upd_ne hb, upd_ne (ne_of_none e hm0), upd_ne hb, upd_ne (ne_of_none e hl0), upd_ne hb]
      exact e
    · rw [upd_ne hlp, upd_ne hml.symm, upd_ne hlp, upd_same]
    · rw [upd_ne hmp, upd_same]
theorem sc_Parser_ahead : FnScope ["self"] ["self"] (defScope s_Parser_ahead) := ⟨rfl, rfl, rfl, by decide +kernel, rfl, by decide +kernel, by decide +kernel⟩
def sp_Parser_ahead (C CP : Addr) : Sp := fun vs H Q _ => ∃ (p dx l : Addr) (as : List Addr) (ts : List WTok) (L n : Nat), vs = [.ref p] ∧ ParAt C CP H p dx l as ts L n ∧ n ≤ ts.length ∧ Q (kindV ts n) H
theorem ok_Parser_ahead {f C CP : Addr} {fd : FuncData} (F : Fun K "ahead" "Parser.ahead" s_Parser_ahead f fd) (T : TopF w K mg) (TK : CToken K C) (TP : CParser K CP) : FnOk P w K mg base CX0 1 f fd ["self"] (sp_Parser_ahead C CP) := by
  refine F.ok sc_Parser_ahead (fun vs H Q E h => ?_) (fun cdv A outer s H vs Q E hr h => ?_)
  · obtain ⟨p, dx, l, as, ts, L, n, rfl, _⟩ := h
    rfl
  · obtain ⟨p, dx, l, as, ts, L, n, rfl, PA, hle, k⟩ := h
    refine ⟨_, (pss_cons (ps_if (pt_cmpR op_eq (pe_fld (pv 0) rfl) (pe_callB call_len_seq (by rfl) T.z_len (by decide +kernel) (pa_cons (pe_fld (pv 0) rfl) pa_nil)) (nomark _)) (pss_one (ps_ret pe_non)) pss_nil)
      (pss_one (ps_ret (pe_fld (pe_ix ix_list (pe_fld (pv 0) rfl) (pe_fld (pv 0) rfl) (fun _ _ => rfl)) rfl)))), ?_⟩
    walk_at "rd"
    simp only [PA.ob, TP.cl, TP.n1, TP.n2, TP.n3, V.ref.injEq, V.int.injEq, V.str.injEq, List.cons.injEq, Option.some.injEq, HO.ins.injEq, and_assoc, exists_and_left, exists_eq_left', exists_eq_left, true_and, and_true, upd_same, upd_upd, putF_nil, putF_cons, lookup_put, lookup_nil, if_false, if_true, List.length_cons, List.length_nil, exists_eq', exists_eq, Nat.reduceAdd, Nat.reduceLT, Nat.zero_add, n_tokens_lines, n_tokens_taken, n_lines_tokens, n_lines_taken, n_taken_tokens, n_taken_lines, n_ahead_tokens, n_ahead_lines, n_ahead_taken, n_refuse_tokens, n_refuse_lines, n_refuse_taken, n_take_tokens, n_take_lines, n_take_taken, n_take_names_tokens, n_take_names_lines, n_take_names_taken, n_take_statement_tokens, n_take_statement_lines, n_take_statement_taken]
    refine ⟨_, .inl (SqL.of PA.ls), ?_⟩
    walk_at "rd"
    rw [List.length_map, PA.ea.1]
    unfold kindV at k
    by_cases h : n = ts.length
    · rw [if_pos (by omega)]
      have e : ts[n]? = none := by simp [h]
      rw [e] at k
      exact k
    · rw [if_neg (by omega)]
      have hn : n < ts.length := by omega
      have e : ts[n]? = some ts[n] := by simp [hn]
      rw [e] at k
      obtain ⟨a, ha, ⟨dy, hT⟩, hat⟩ := PA.tok e
      refine ⟨_, SqL.of PA.ls, _, hat, ?_⟩
      walk_at "rd"
      simp only [hT, TK.cl, TK.n1, V.ref.injEq, V.int.injEq, V.str.injEq, List.cons.injEq, Option.some.injEq, HO.ins.injEq, and_assoc, exists_and_left, exists_eq_left', exists_eq_left, true_and, and_true, upd_same, upd_upd, putF_nil, putF_cons, lookup_put, lookup_nil, if_false, if_true, List.length_cons, List.length_nil, exists_eq', exists_eq, Nat.reduceAdd, Nat.reduceLT, Nat.zero_add, n_kind_text, n_kind_line, n_kind_column, n_text_kind, n_text_line, n_text_column, n_line_kind, n_line_text, n_line_column, n_column_kind, n_column_text, n_column_line]
      exact k
theorem sc_Parser_refuse : FnScope ["self", "token"] ["self"] (defScope s_Parser_refuse) := ⟨rfl, rfl, rfl, by decide +kernel, rfl, by decide +kernel, by decide +kernel⟩
def sp_Parser_refuse (C CP CS : Addr) : Sp := fun vs H Q E => ∃ (p dx l : Addr) (as : List Addr) (ts : List WTok) (L n : Nat), vs = [.ref p] ∧ ParAt C CP H p dx l as ts L n ∧ n ≤ ts.length ∧ ESyn CS H E (fault L ts n).1 (fault L ts n).2
theorem ok_Parser_refuse {f C CP CS CC : Addr} {fd : FuncData} (F : Fun K "refuse" "Parser.refuse" s_Parser_refuse f fd) (T : TopF w K mg) (TE : TErr P w K mg base CS CC) (TK : CToken K C) (TP : CParser K CP) : FnOk P w K mg base (L2.CX P w) 6 f fd ["self"] (sp_Parser_refuse C CP CS) := by
  refine F.okX sc_Parser_refuse (fun vs H Q E h => ?_) (fun cdv A outer s H vs Q E hr h => ?_)
  · obtain ⟨p, dx, l, as, ts, L, n, rfl, _⟩ := h
    rfl
  · obtain ⟨p, dx, l, as, ts, L, n, rfl, PA, hle, k⟩ := h
    refine ⟨_, (pss_cons (ps_if (pt_cmpR op_eq (pe_fld (pv 0) rfl) (pe_callB call_len_seq (by rfl) T.z_len (by decide +kernel) (pa_cons (pe_fld (pv 0) rfl) pa_nil)) (nomark _)) (pss_one (ps_raise rfl (takes_of rfl rfl rfl rfl) (pmk_syn TE (hr.mono (by decide)) (pa_cons (pe_fld (pv 0) rfl) (pa_cons pe_int pa_nil))))) pss_nil)
      (pss_cons (ps_set (i := 1) sc_Parser_refuse.nd rfl (Or.inl rfl) (pe_ix ix_list (pe_fld (pv 0) rfl) (pe_fld (pv 0) rfl) (fun _ _ => rfl)))
      (pss_one (ps_raise rfl (takes_of rfl rfl rfl rfl) (pmk_syn TE (hr.mono (by decide)) (pa_cons (pe_fld (pv 1) rfl) (pa_cons (pe_fld (pv 1) rfl) pa_nil))))))), ?_⟩
    walk_at "rd"
    simp only [PA.ob, TP.cl, TP.n1, TP.n2, TP.n3, V.ref.injEq, V.int.injEq, V.str.injEq, List.cons.injEq, Option.some.injEq, HO.ins.injEq, and_assoc, exists_and_left, exists_eq_left', exists_eq_left, true_and, and_true, upd_same, upd_upd, putF_nil, putF_cons, lookup_put, lookup_nil, if_false, if_true, List.length_cons, List.length_nil, exists_eq', exists_eq, Nat.reduceAdd, Nat.reduceLT, Nat.zero_add, n_tokens_lines, n_tokens_taken, n_lines_tokens, n_lines_taken, n_taken_tokens, n_taken_lines, n_ahead_tokens, n_ahead_lines, n_ahead_taken, n_refuse_tokens, n_refuse_lines, n_refuse_taken, n_take_tokens, n_take_lines, n_take_taken, n_take_names_tokens, n_take_names_lines, n_take_names_taken, n_take_statement_tokens, n_take_statement_lines, n_take_statement_taken]
    refine ⟨_, .inl (SqL.of PA.ls), ?_⟩
    walk_at "rd"
    rw [List.length_map, PA.ea.1]
    unfold fault at k
    by_cases h : n = ts.length
    · rw [if_pos (by omega)]
      have e : ts[n]? = none := by simp [h]
      rw [e] at k
      have := PA.bl
      exact ⟨L, rfl, 0, rfl, by omega, by omega, k⟩
    · rw [if_neg (by omega)]
      have hn : n < ts.length := by omega
      have e : ts[n]? = some ts[n] := by simp [hn]
      rw [e] at k
      obtain ⟨a, ha, ⟨dy, hT⟩, hat⟩ := PA.tok e
      have hb := PA.bt _ (List.getElem_mem hn)
      refine ⟨_, SqL.of PA.ls, _, hat, ?_⟩
      walk_at "rd"
      simp only [hT, TK.cl, TK.n3, TK.n4, V.ref.injEq, V.int.injEq, V.str.injEq, List.cons.injEq, Option.some.injEq, HO.ins.injEq, and_assoc, exists_and_left, exists_eq_left', exists_eq_left, true_and, and_true, upd_same, upd_upd, putF_nil, putF_cons, lookup_put, lookup_nil, if_false, if_true, List.length_cons, List.length_nil, exists_eq', exists_eq, Nat.reduceAdd, Nat.reduceLT, Nat.zero_add, n_kind_text, n_kind_line, n_kind_column, n_text_kind, n_text_line, n_text_column, n_line_kind, n_line_text, n_line_column, n_column_kind, n_column_text, n_column_line]
      exact ⟨_, rfl, _, rfl, by omega, by omega, k⟩
end

end Wv
end WvP1_
section WvP2_
set_option Elab.async false
set_option linter.all false
set_option maxRecDepth 100000
set_option maxHeartbeats 4000000
namespace Wv
open PySem L2
open SX (S S_len S_inj)
local macro_rules | `(tactic| walk_at "rd") => `(tactic| (try simp only [tVar, tC, tB, tAnd, tOr, tNot, tAndV, tOrV, tNotV, tIf, tNext, tSeq, tBreak, tCont, tDrop, tRet, tRetN, tIfS, gName, gNil, gCons, gTup, gSub, tAsg, tPar, tAug, tOp, tUn, rI, rI0, rU, rEq, rNe, tTest, tFld, tNil, tCons, tTup, tLst, tCB, tNoPart, tPart, tSl, rIxL, rIxT, rIxS, rSlL, rSlS, tBM0, tBM, rAppend, rExtend, rCat, rRep, rSetL, tM0, tM1, tCall, tMeth, tMake, sFld, sFldAug, rAdd, rSub, ipI, tBM0,
  scal_ss, scal_ii, scal_bb, scal_ns, scal_sn, scal_nn, tyV_str, L2.start, List.map_cons, List.map_nil, List.length_cons, List.length_nil, List.replicate, List.cons_append, List.nil_append, List.append_nil, List.getElem?_cons_zero, List.getElem?_cons_succ, List.set_cons_zero, List.set_cons_succ, Nat.reduceAdd, Nat.reduceSub, Nat.zero_add, Nat.sub_self, Nat.add_one_sub_one,
  Option.some.injEq, exists_eq_left, exists_eq_left', exists_eq', exists_eq, V.int.injEq, V.str.injEq, V.ref.injEq, V.bl.injEq, reduceCtorEq, List.cons.injEq, and_true, true_and, exists_and_left, exists_and_right, and_assoc, decide_true, decide_false, if_true, if_false, ite_true, ite_false, Bool.false_eq_true, Bool.true_eq_false, eq_self_iff_true, cx_K, nox_K, tMkSyn, tMkChk, tYes, bne, ne_eq, not_false_eq_true, not_true_eq_false, Bool.not_true, Bool.not_false, decide_eq_true_eq, Bool.not_eq_true', decide_eq_false_iff_not]))
def ESyn1 (CS p : Addr) (H : Hp) (E : XK) (l c : Nat) : Prop := ∀ d fs H', H d = none → Same1 p H H' → H' d = some (.xd fs) → fs.lookup ("line" : Str) = some (.int (l : Nat)) → fs.lookup ("column" : Str) = some (.int (c : Nat)) → E (.ref CS) (some d) H'
theorem ESyn1.to {CS p : Addr} {H H' : Hp} {E : XK} {l c : Nat} (h : ESyn1 CS p H E l c) (e : Same1 p H H') (hp : ∃ o, H p = some o) (hp' : ∃ o, H' p = some o) : ESyn CS H' E l c := fun d fs H2 hd s1 => by
  refine h d fs H2 ?_ (e.trans (Same1.of s1))
  cases q : H d with
  | none => rfl
  | some o =>
    by_cases z : d = p
    · obtain ⟨o2, h2⟩ := hp'
      rw [z, h2] at hd
      cases hd
    · rw [e d o z q] at hd
      cases hd
theorem ESyn1.mono {CS p : Addr} {H H' : Hp} {E : XK} {l c : Nat} (h : ESyn1 CS p H E l c) (e : Same1 p H H') (hp' : ∃ o, H' p = some o) : ESyn1 CS p H' E l c := fun d fs H2 hd s1 => by
  refine h d fs H2 ?_ (e.trans s1)
  cases q : H d with
  | none => rfl
  | some o =>
    by_cases z : d = p
    · obtain ⟨o2, h2⟩ := hp'
      rw [z, h2] at hd
      cases hd
    · rw [e d o z q] at hd
      cases hd
theorem same1_mut {p l : Addr} {H H' : Hp} {o : HO} (e : Same1 p H H') (h : H l = none) : Same1 p H (upd H' l o) := fun b u hb hu => by
  rw [upd_ne (ne_of_none hu h)]
  exact e b u hb hu
def takeN (L : Nat) (ts : List WTok) (k : List Nat) (n : Nat) : Except (Nat × Nat) (WTok × Nat) := match ts[n]? with | some t => if t.kind = k then .ok (t, n + 1) else .error (fault L ts n) | none => .error (fault L ts n)
def namesFrom (ts : List WTok) : Nat → Nat → List WTok
  | 0, _ => []
  | f + 1, n => match ts[n]? with | some t => if t.kind = nameK then t :: namesFrom ts f (n + 1) else [] | none => []
def takeNames (L : Nat) (ts : List WTok) (n : Nat) : Except (Nat × Nat) (List WTok × Nat) := match takeN L ts nameK n with
  | .error e => .error e
  | .ok (t, m) => .ok (t :: namesFrom ts ts.length m, m + (namesFrom ts ts.length m).length)
theorem takeN_ok {L : Nat} {ts : List WTok} {k : List Nat} {n : Nat} {t : WTok} {m : Nat} (h : takeN L ts k n = .ok (t, m)) : m = n + 1 ∧ ts[n]? = some t ∧ t.kind = k ∧ n < ts.length := by
  unfold takeN at h
  cases e : ts[n]? with
  | none => rw [e] at h; cases h
  | some u =>
    rw [e] at h
    by_cases hk : u.kind = k
    · simp only [hk, if_true] at h
      cases h
      exact ⟨rfl, rfl, hk, (List.getElem?_eq_some_iff.mp e).1⟩
    · simp only [hk, if_false] at h
      cases h
theorem takeN_err {L : Nat} {ts : List WTok} {k : List Nat} {n : Nat} {e : Nat × Nat} (h : takeN L ts k n = .error e) : e = fault L ts n ∧ ∀ t, ts[n]? = some t → t.kind ≠ k := by
  unfold takeN at h
  cases e1 : ts[n]? with
  | none =>
    rw [e1] at h
    cases h
    exact ⟨rfl, fun t z => by cases z⟩
  | some u =>
    rw [e1] at h
    by_cases hk : u.kind = k
    · simp only [hk, if_true] at h
      cases h
    · simp only [hk, if_false] at h
      cases h
      exact ⟨rfl, fun t z => by cases z; exact hk⟩
theorem namesFrom_len (ts : List WTok) : ∀ (f n : Nat), n + (namesFrom ts f n).length ≤ max n ts.length
  | 0, n => by simp [namesFrom]; omega
  | f + 1, n => by
    unfold namesFrom
    cases e : ts[n]? with
    | none => simp; omega
    | some t =>
      have hn := (List.getElem?_eq_some_iff.mp e).1
      by_cases hk : t.kind = nameK
      · simp only [hk, if_true, List.length_cons]
        have := namesFrom_len ts f (n + 1)
        omega
      · simp only [hk, if_false, List.length_nil]
        omega
theorem namesFrom_more (ts : List WTok) : ∀ (f n : Nat), ts.length ≤ n + f → ∀ g, f ≤ g → namesFrom ts g n = namesFrom ts f n
  | 0, n, h, g, _ => by
    have e : ts[n]? = none := by simp; omega
    cases g with
    | zero => rfl
    | succ g => simp [namesFrom, e]
  | f + 1, n, h, g, hg => by
    cases g with
    | zero => omega
    | succ g =>
      unfold namesFrom
      cases e : ts[n]? with
      | none => rfl
      | some t =>
        by_cases hk : t.kind = nameK
        · simp only [hk, if_true]
          rw [namesFrom_more ts f (n + 1) (by omega) g (by omega)]
        · simp only [hk, if_false]
section
variable {P : Program} {w : World} {K : PySem.W.Frag} {mg : Str → Option Value} {base : Heap}
theorem sc_Parser_take : FnScope ["self", "kind", "token"] ["self", "kind"] (defScope s_Parser_take) := ⟨rfl, rfl, rfl, by decide +kernel, rfl, by decide +kernel, by decide +kernel⟩
def sp_Parser_take (C CP CS : Addr) : Sp := fun vs H Q E => ∃ (p dx l : Addr) (as : List Addr) (ts : List WTok) (L n : Nat) (k : List Nat), vs = [.ref p, .str (S k)] ∧ ParAt C CP H p dx l as ts L n ∧ n ≤ ts.length ∧
  (∀ t m, takeN L ts k n = .ok (t, m) → ∀ a, TokAt C H a t → Q (.ref a) (upd H p (.ins CP dx [("tokens", .ref l), ("lines", .int (L : Nat)), ("taken", .int (m : Nat))]))) ∧ (∀ x y, takeN L ts k n = .error (x, y) → ESyn CS H E x y)
theorem ok_Parser_take {f C CP CS CC : Addr} {fd : FuncData} (F : Fun K "take" "Parser.take" s_Parser_take f fd) (T : TopF w K mg) (TK : CToken K C) (T_Parser : CParser K CP)
    (D_Parser_ahead : DM P w K mg base CX0 1 CP "ahead" ["self"] (sp_Parser_ahead C CP)) (D_Parser_refuse : DM P w K mg base (L2.CX P w) 6 CP "refuse" ["self"] (sp_Parser_refuse C CP CS)) :
    FnOk P w K mg base (L2.CX P w) 7 f fd ["self", "kind"] (sp_Parser_take C CP CS) := by
  refine F.okX sc_Parser_take (fun vs H Q E h => ?_) (fun cdv A outer s H vs Q E hr h => ?_)
  · obtain ⟨p, dx, l, as, ts, L, n, k, rfl, _⟩ := h
    rfl
  · obtain ⟨p, dx, l, as, ts, L, n, k, rfl, PA, hle, kY, kN⟩ := h
    refine ⟨_, (pss_cons (ps_if (pt_cmpR op_ne (pe_meth0 (pv 0) T_Parser.cl D_Parser_ahead.m D_Parser_ahead.G (hr.mono (by decide)) D_Parser_ahead.b .nil pass0) (pv 1) (nomark _)) (pss_one (ps_expr (pe_meth0 (pv 0) T_Parser.cl D_Parser_refuse.m D_Parser_refuse.G (hr.mono (by decide)) D_Parser_refuse.b .nil (passes_call (takes_of rfl rfl rfl rfl) fun _ _ _ _ z => z)))) pss_nil)
      (pss_cons (ps_set (i := 2) sc_Parser_take.nd rfl (Or.inl rfl) (pe_ix ix_list (pe_fld (pv 0) rfl) (pe_fld (pv 0) rfl) (fun _ _ => rfl)))
      (pss_cons (ps_fldaug (pv 0) pe_int in_add)
      (pss_one (ps_ret (pv 2)))))), ?_⟩
    walk_at "rd"
    simp only [PA.ob, V.ref.injEq, V.int.injEq, V.str.injEq, List.cons.injEq, Option.some.injEq, HO.ins.injEq, and_assoc, exists_and_left, exists_eq_left', exists_eq_left, true_and, and_true, upd_same, upd_upd, putF_nil, putF_cons, lookup_put, lookup_nil, if_false, if_true, List.length_cons, List.length_nil, exists_eq', exists_eq, Nat.reduceAdd, Nat.reduceLT, Nat.zero_add, n_tokens_lines, n_tokens_taken, n_lines_tokens, n_lines_taken, n_taken_tokens, n_taken_lines, n_ahead_tokens, n_ahead_lines, n_ahead_taken, n_refuse_tokens, n_refuse_lines, n_refuse_taken, n_take_tokens, n_take_lines, n_take_taken, n_take_names_tokens, n_take_names_lines, n_take_names_taken, n_take_statement_tokens, n_take_statement_lines, n_take_statement_taken]
    refine ⟨p, dx, l, as, ts, L, n, rfl, PA, hle, ?_⟩
    unfold kindV
    unfold takeN at kY kN
    cases e : ts[n]? with
    | none =>
      rw [e] at kN
      walk_at "rd"
      simp only [PA.ob, V.ref.injEq, V.int.injEq, V.str.injEq, List.cons.injEq, Option.some.injEq, HO.ins.injEq, and_assoc, exists_and_left, exists_eq_left', exists_eq_left, true_and, and_true, upd_same, upd_upd, putF_nil, putF_cons, lookup_put, lookup_nil, if_false, if_true, List.length_cons, List.length_nil, exists_eq', exists_eq, Nat.reduceAdd, Nat.reduceLT, Nat.zero_add, n_tokens_lines, n_tokens_taken, n_lines_tokens, n_lines_taken, n_taken_tokens, n_taken_lines, n_ahead_tokens, n_ahead_lines, n_ahead_taken, n_refuse_tokens, n_refuse_lines, n_refuse_taken, n_take_tokens, n_take_lines, n_take_taken, n_take_names_tokens, n_take_names_lines, n_take_names_taken, n_take_statement_tokens, n_take_statement_lines, n_take_statement_taken]
      exact ⟨p, dx, l, as, ts, L, n, rfl, PA, hle, kN _ _ rfl⟩
    | some t =>
      rw [e] at kY kN
      walk_at "rd"
      by_cases hk : t.kind = k
      · simp only [hk, if_true] at kY
        rw [if_neg (by simp [hk])]
        obtain ⟨a, ha, hT, hat⟩ := PA.tok e
        simp only [PA.ob, T_Parser.cl, T_Parser.n1, T_Parser.n2, T_Parser.n3, V.ref.injEq, V.int.injEq, V.str.injEq, List.cons.injEq, Option.some.injEq, HO.ins.injEq, and_assoc, exists_and_left, exists_eq_left', exists_eq_left, true_and, and_true, upd_same, upd_upd, putF_nil, putF_cons, lookup_put, lookup_nil, if_false, if_true, List.length_cons, List.length_nil, exists_eq', exists_eq, Nat.reduceAdd, Nat.reduceLT, Nat.zero_add, n_tokens_lines, n_tokens_taken, n_lines_tokens, n_lines_taken, n_taken_tokens, n_taken_lines, n_ahead_tokens, n_ahead_lines, n_ahead_taken, n_refuse_tokens, n_refuse_lines, n_refuse_taken, n_take_tokens, n_take_lines, n_take_taken, n_take_names_tokens, n_take_names_lines, n_take_names_taken, n_take_statement_tokens, n_take_statement_lines, n_take_statement_taken]
        refine ⟨_, SqL.of PA.ls, _, hat, ?_⟩
        exact kY t (n + 1) rfl a hT
      · simp only [hk, if_false] at kN
        rw [if_pos (by rw [S_eq]; exact hk)]
        simp only [PA.ob, V.ref.injEq, V.int.injEq, V.str.injEq, List.cons.injEq, Option.some.injEq, HO.ins.injEq, and_assoc, exists_and_left, exists_eq_left', exists_eq_left, true_and, and_true, upd_same, upd_upd, putF_nil, putF_cons, lookup_put, lookup_nil, if_false, if_true, List.length_cons, List.length_nil, exists_eq', exists_eq, Nat.reduceAdd, Nat.reduceLT, Nat.zero_add, n_tokens_lines, n_tokens_taken, n_lines_tokens, n_lines_taken, n_taken_tokens, n_taken_lines, n_ahead_tokens, n_ahead_lines, n_ahead_taken, n_refuse_tokens, n_refuse_lines, n_refuse_taken, n_take_tokens, n_take_lines, n_take_taken, n_take_names_tokens, n_take_names_lines, n_take_names_taken, n_take_statement_tokens, n_take_statement_lines, n_take_statement_taken]
        exact ⟨p, dx, l, as, ts, L, n, rfl, PA, hle, kN _ _ rfl⟩

theorem sc_Parser_take_names : FnScope ["self", "names"] ["self"] (defScope s_Parser_take_names) := ⟨rfl, rfl, rfl, by decide +kernel, rfl, by decide +kernel, by decide +kernel⟩
def sp_Parser_take_names (C CP CS : Addr) : Sp := fun vs H Q E => ∃ (p dx l : Addr) (as : List Addr) (ts : List WTok) (L n : Nat), vs = [.ref p] ∧ ParAt C CP H p dx l as ts L n ∧ n ≤ ts.length ∧ ts.length ≤ 50000 ∧
  (∀ ns m, takeNames L ts n = .ok (ns, m) → ∀ q H', H q = none → Same1 p H H' → H' p = some (.ins CP dx [("tokens", .ref l), ("lines", .int (L : Nat)), ("taken", .int (m : Nat))]) → LstAt (TokAt C) H' q ns → Q (.ref q) H') ∧
  (∀ x y, takeNames L ts n = .error (x, y) → ESyn1 CS p H E x y)
def INam (C CP : Addr) (p dx l q : Addr) (as : List Addr) (ts : List WTok) (L : Nat) (m1 : Nat) (t1 : WTok) (H : Hp) (m : Nat) (σ : L2.St) (H' : Hp) : Prop :=
  ∃ (n : Nat) (bs : List Addr) (us : List WTok), σ = [some (.ref p), some (.ref q)] ∧ Same1 p H H' ∧ ParAt C CP H' p dx l as ts L n ∧ H' q = some (.lst (bs.map V.ref)) ∧ Each (TokAt C H') bs us ∧ n ≤ ts.length ∧ m = ts.length - n ∧ us.length ≤ n ∧
    t1 :: namesFrom ts ts.length m1 = us ++ namesFrom ts ts.length n ∧ m1 + (namesFrom ts ts.length m1).length = n + (namesFrom ts ts.length n).length
theorem ok_Parser_take_names {f C CP CS CC : Addr} {fd : FuncData} (F : Fun K "take_names" "Parser.take_names" s_Parser_take_names f fd) (T : TopF w K mg) (TK : CToken K C) (T_Parser : CParser K CP)
    (D_Parser_ahead : DM P w K mg base CX0 1 CP "ahead" ["self"] (sp_Parser_ahead C CP)) (D_Parser_take : DM P w K mg base (L2.CX P w) 7 CP "take" ["self", "kind"] (sp_Parser_take C CP CS)) :
    FnOk P w K mg base (L2.CX P w) 8 f fd ["self"] (sp_Parser_take_names C CP CS) := by
  refine F.okX sc_Parser_take_names (fun vs H Q E h => ?_) (fun cdv A outer s H vs Q E hr h => ?_)
  · obtain ⟨p, dx, l, as, ts, L, n, rfl, _⟩ := h
    rfl
  · obtain ⟨p, dx, l, as, ts, L, n, rfl, PA, hle, hlim, kY, kN⟩ := h
    refine ⟨_, (pss_cons (ps_set (i := 1) sc_Parser_take_names.nd rfl (Or.inl rfl) (pe_lst (pa_cons (pe_meth (pv 0) T_Parser.cl D_Parser_take.m D_Parser_take.G (hr.mono (by decide)) D_Parser_take.b .nil (passes_call (takes_of rfl rfl rfl rfl) fun _ _ _ _ z => z) (pa_cons pe_str pa_nil)) pa_nil)))
      (pss_cons (ps_while (passes_of rfl) (pt_cmpR op_eq (pe_meth0 (pv 0) T_Parser.cl D_Parser_ahead.m D_Parser_ahead.G (hr.mono (by decide)) D_Parser_ahead.b .nil pass0) pe_str (nomark _)) (pss_one (ps_expr (pe_bm PySem.F.plainAttrs_list PySem.F.slot_list_append PySem.F.type_list_append mt_append (pv 1) (pa_cons (pe_meth (pv 0) T_Parser.cl D_Parser_take.m D_Parser_take.G (hr.mono (by decide)) D_Parser_take.b .nil (passes_call (takes_of rfl rfl rfl rfl) fun _ _ _ _ z => z) (pa_cons pe_str pa_nil)) pa_nil)))))
      (pss_one (ps_ret (pv 1))))), ?_⟩
    walk_at "rd"
    simp only [PA.ob, V.ref.injEq, V.int.injEq, V.str.injEq, List.cons.injEq, Option.some.injEq, HO.ins.injEq, and_assoc, exists_and_left, exists_eq_left', exists_eq_left, true_and, and_true, upd_same, upd_upd, putF_nil, putF_cons, lookup_put, lookup_nil, if_false, if_true, List.length_cons, List.length_nil, exists_eq', exists_eq, Nat.reduceAdd, Nat.reduceLT, Nat.zero_add, n_tokens_lines, n_tokens_taken, n_lines_tokens, n_lines_taken, n_taken_tokens, n_taken_lines, n_ahead_tokens, n_ahead_lines, n_ahead_taken, n_refuse_tokens, n_refuse_lines, n_refuse_taken, n_take_tokens, n_take_lines, n_take_taken, n_take_names_tokens, n_take_names_lines, n_take_names_taken, n_take_statement_tokens, n_take_statement_lines, n_take_statement_taken]
    refine ⟨p, dx, l, as, ts, L, n, nameK, by rw [str_name], PA, hle, fun t m ht a hT => ?_, fun x y he => ?_⟩
    · obtain ⟨rfl, et, ek, hlt⟩ := takeN_ok ht
      walk_at "rd"
      refine ⟨by decide, fun q hq => ?_⟩
      have hqp : q ≠ p := fun e => by
        rw [e, upd_same] at hq
        cases hq
      have hq0 : H q = none := by
        rw [upd_ne hqp] at hq
        exact hq
      have hap : a ≠ p := by
        intro e
        obtain ⟨dy, hy⟩ := hT
        rw [e, PA.ob] at hy
        injection hy with z
        injection z with e1 e2 e3
        cases e3
      have s1 : Same1 p H (upd (upd H p (.ins CP dx [("tokens", .ref l), ("lines", .int (L : Nat)), ("taken", .int ((n + 1 : Nat) : Int))])) q (.lst [V.ref a])) := same1_mut (Same1.refl H).upd hq0
      have hres : takeNames L ts n = .ok (t :: namesFrom ts ts.length (n + 1), n + 1 + (namesFrom ts ts.length (n + 1)).length) := by
        unfold takeNames
        rw [ht]
      refine ⟨INam C CP p dx l q as ts L (n + 1) t H, ⟨_, n + 1, [a], [t], rfl, s1, PA.step s1 (by rw [upd_ne hqp.symm, upd_same]), upd_same, ?_, by omega, rfl, by simp, rfl, rfl⟩, ?_⟩
      · refine ⟨rfl, fun i b u hb hu => ?_⟩
        cases i with
        | zero =>
          cases hb
          cases hu
          obtain ⟨dy, hy⟩ := hT
          exact ⟨dy, s1 _ _ hap hy⟩
        | succ i => simp at hb
      rintro m σ H1 ⟨n1, bs, us, rfl, s2, PB, hQ, hE, hn1, rfl, hus, e1, e2⟩
      walk_at "rd"
      simp only [PB.ob, V.ref.injEq, V.int.injEq, V.str.injEq, List.cons.injEq, Option.some.injEq, HO.ins.injEq, and_assoc, exists_and_left, exists_eq_left', exists_eq_left, true_and, and_true, upd_same, upd_upd, putF_nil, putF_cons, lookup_put, lookup_nil, if_false, if_true, List.length_cons, List.length_nil, exists_eq', exists_eq, Nat.reduceAdd, Nat.reduceLT, Nat.zero_add, n_tokens_lines, n_tokens_taken, n_lines_tokens, n_lines_taken, n_taken_tokens, n_taken_lines, n_ahead_tokens, n_ahead_lines, n_ahead_taken, n_refuse_tokens, n_refuse_lines, n_refuse_taken, n_take_tokens, n_take_lines, n_take_taken, n_take_names_tokens, n_take_names_lines, n_take_names_taken, n_take_statement_tokens, n_take_statement_lines, n_take_statement_taken]
      refine ⟨p, dx, l, as, ts, L, n1, rfl, PB, hn1, ?_⟩
      unfold kindV
      cases ek1 : ts[n1]? with
      | none =>
        walk_at "rd"
        have hnn : namesFrom ts ts.length n1 = [] := by
          cases hx : ts.length with
          | zero => rfl
          | succ k => unfold namesFrom; rw [ek1]
        rw [hnn] at e1 e2
        rw [List.append_nil] at e1
        rw [e1, e2] at hres
        exact kY _ _ hres q H1 hq0 s2 PB.ob ⟨bs, hQ, hE⟩
      | some t2 =>
        walk_at "rd"
        have hn2 := (List.getElem?_eq_some_iff.mp ek1).1
        by_cases hk : t2.kind = nameK
        · rw [if_pos (by rw [hk, str_name])]
          refine ⟨_, fun _ _ z => z, tyV_lst hQ, ?_⟩
          simp only [PB.ob, V.ref.injEq, V.int.injEq, V.str.injEq, List.cons.injEq, Option.some.injEq, HO.ins.injEq, and_assoc, exists_and_left, exists_eq_left', exists_eq_left, true_and, and_true, upd_same, upd_upd, putF_nil, putF_cons, lookup_put, lookup_nil, if_false, if_true, List.length_cons, List.length_nil, exists_eq', exists_eq, Nat.reduceAdd, Nat.reduceLT, Nat.zero_add, n_tokens_lines, n_tokens_taken, n_lines_tokens, n_lines_taken, n_taken_tokens, n_taken_lines, n_ahead_tokens, n_ahead_lines, n_ahead_taken, n_refuse_tokens, n_refuse_lines, n_refuse_taken, n_take_tokens, n_take_lines, n_take_taken, n_take_names_tokens, n_take_names_lines, n_take_names_taken, n_take_statement_tokens, n_take_statement_lines, n_take_statement_taken]
          refine ⟨p, dx, l, as, ts, L, n1, nameK, by rw [str_name], PB, hn1, fun t3 m3 ht3 a3 hT3 => ?_, fun x y he => ?_⟩
          · obtain ⟨rfl, et3, ek3, hlt3⟩ := takeN_ok ht3
            have hqp2 : q ≠ p := hqp
            have hap3 : a3 ≠ p := by
              intro e
              obtain ⟨dy, hy⟩ := hT3
              rw [e, PB.ob] at hy
              injection hy with z
              injection z with e1 e2 e3
              cases e3
            walk_at "rd"
            rw [upd_ne hqp2, hQ]
            simp only [Option.some.injEq, HO.lst.injEq, exists_eq_left', List.length_map]
            refine ⟨line_lt (by rw [hE.1]; omega), ?_⟩
            have hnn : namesFrom ts ts.length n1 = t3 :: namesFrom ts ts.length (n1 + 1) := by
              cases hx : ts.length with
              | zero => omega
              | succ k =>
                rw [namesFrom, et3]
                simp only [ek3, if_true]
                rw [namesFrom_more ts k (n1 + 1) (by omega) (k + 1) (by omega)]
            rw [hnn] at e1 e2
            have sN : ∀ a u, TokAt C H1 a u → a ≠ p → TokAt C (upd (upd H1 p (.ins CP dx [("tokens", .ref l), ("lines", .int (L : Nat)), ("taken", .int ((n1 + 1 : Nat) : Int))])) q (.lst (bs.map V.ref ++ [V.ref a3]))) a u := fun a u ⟨dy, hy⟩ hne => ⟨dy, by
              rw [upd_ne (ne_of hy hQ (by intro z; cases z)), upd_ne hne]
              exact hy⟩
            have nP : ∀ a u, TokAt C H1 a u → a ≠ p := fun a u ⟨dy, hy⟩ e => by
              rw [e, PB.ob] at hy
              injection hy with z
              injection z with e1 e2 e3
              cases e3
            have s3 : Same1 p H (upd (upd H1 p (.ins CP dx [("tokens", .ref l), ("lines", .int (L : Nat)), ("taken", .int ((n1 + 1 : Nat) : Int))])) q (.lst (bs.map V.ref ++ [V.ref a3]))) := same1_mut s2.upd hq0
            refine ⟨ts.length - (n1 + 1), by omega, n1 + 1, bs ++ [a3], us ++ [t3], rfl, s3, PA.step s3 (by rw [upd_ne hqp.symm, upd_same]), by rw [upd_same, List.map_append]; rfl, (hE.imp fun a u h => sN a u h (nP a u h)).snoc (sN _ _ hT3 hap3), by omega, rfl, by simp; omega, ?_, ?_⟩
            · rw [e1]
              simp
            · rw [e2]
              simp
              omega
          · exfalso
            have := (takeN_err he).2 _ ek1
            exact this hk
        · rw [if_neg (by rw [str_name, S_eq]; exact hk)]
          have hnn : namesFrom ts ts.length n1 = [] := by
            cases hx : ts.length with
            | zero => rfl
            | succ k => unfold namesFrom; rw [ek1]; simp [hk]
          rw [hnn] at e1 e2
          rw [List.append_nil] at e1
          rw [e1, e2] at hres
          exact kY _ _ hres q H1 hq0 s2 PB.ob ⟨bs, hQ, hE⟩
    · have : takeNames L ts n = .error (x, y) := by
        unfold takeNames
        rw [he]
      exact (kN x y this).to (Same1.refl H) ⟨_, PA.ob⟩ ⟨_, PA.ob⟩
end

end Wv
end WvP2_
section WvP3_
set_option Elab.async false
set_option linter.all false
set_option maxRecDepth 100000
set_option maxHeartbeats 4000000
namespace Wv
open PySem L2
open SX (S S_len S_inj)
local macro_rules | `(tactic| walk_at "rd") => `(tactic| (try simp only [tVar, tC, tB, tAnd, tOr, tNot, tAndV, tOrV, tNotV, tIf, tNext, tSeq, tBreak, tCont, tDrop, tRet, tRetN, tIfS, gName, gNil, gCons, gTup, gSub, tAsg, tPar, tAug, tOp, tUn, rI, rI0, rU, rEq, rNe, tTest, tFld, tNil, tCons, tTup, tLst, tCB, tNoPart, tPart, tSl, rIxL, rIxT, rIxS, rSlL, rSlS, tBM0, tBM, rAppend, rExtend, rCat, rRep, rSetL, tM0, tM1, tCall, tMeth, tMake, sFld, sFldAug, rAdd, rSub, ipI, tBM0,
  scal_ss, scal_ii, scal_bb, scal_ns, scal_sn, scal_nn, tyV_str, L2.start, List.map_cons, List.map_nil, List.length_cons, List.length_nil, List.replicate, List.cons_append, List.nil_append, List.append_nil, List.getElem?_cons_zero, List.getElem?_cons_succ, List.set_cons_zero, List.set_cons_succ, Nat.reduceAdd, Nat.reduceSub, Nat.zero_add, Nat.sub_self, Nat.add_one_sub_one,
  Option.some.injEq, exists_eq_left, exists_eq_left', exists_eq', exists_eq, V.int.injEq, V.str.injEq, V.ref.injEq, V.bl.injEq, reduceCtorEq, List.cons.injEq, and_true, true_and, exists_and_left, exists_and_right, and_assoc, decide_true, decide_false, if_true, if_false, ite_true, ite_false, Bool.false_eq_true, Bool.true_eq_false, eq_self_iff_true, cx_K, nox_K, tMkSyn, tMkChk, tYes, bne, ne_eq, not_false_eq_true, not_true_eq_false, Bool.not_true, Bool.not_false, decide_eq_true_eq, Bool.not_eq_true', decide_eq_false_iff_not]))
structure WStm where
  key : WTok
  names : List WTok
  numbers : List WTok
def takePart (L : Nat) (ts : List WTok) (part : List Nat) (s : WStm) (n : Nat) : Except (Nat × Nat) (WStm × Nat) :=
  if part = namesK then (match takeNames L ts n with | .error e => .error e | .ok (r, m) => .ok (⟨s.key, s.names ++ r, s.numbers⟩, m))
  else if part = nameK then (match takeN L ts nameK n with | .error e => .error e | .ok (t, m) => .ok (⟨s.key, s.names ++ [t], s.numbers⟩, m))
  else if part = numberK then (match takeN L ts numberK n with | .error e => .error e | .ok (t, m) => .ok (⟨s.key, s.names, s.numbers ++ [t]⟩, m))
  else (match takeN L ts part n with | .error e => .error e | .ok (_, m) => .ok (s, m))
def takeParts (L : Nat) (ts : List WTok) : List (List Nat) → WStm → Nat → Except (Nat × Nat) (WStm × Nat)
  | [], s, n => .ok (s, n)
  | a :: r, s, n => match takePart L ts a s n with | .error e => .error e | .ok (s2, m) => takeParts L ts r s2 m
def stmEnd (L : Nat) (ts : List WTok) (x : Except (Nat × Nat) (WStm × Nat)) : Except (Nat × Nat) (WStm × Nat) := match x with
  | .error e => .error e
  | .ok (s2, m2) => match takeN L ts [59] m2 with | .error e => .error e | .ok (_, m3) => .ok (s2, m3)
def takeStm (L : Nat) (ts : List WTok) (word : List Nat) (n : Nat) : Except (Nat × Nat) (WStm × Nat) := match takeN L ts word n with
  | .error e => .error e
  | .ok (t, m) => stmEnd L ts (takeParts L ts ((forms word).getD []) ⟨t, [], []⟩ m)
theorem takeNames_le {L : Nat} {ts : List WTok} {n : Nat} {r : List WTok} {m : Nat} (h : takeNames L ts n = .ok (r, m)) : n < m ∧ m ≤ ts.length ∧ r.length = m - n := by
  unfold takeNames at h
  cases e : takeN L ts nameK n with
  | error x => rw [e] at h; cases h
  | ok z =>
    obtain ⟨t, m1⟩ := z
    rw [e] at h
    obtain ⟨rfl, _, _, hlt⟩ := takeN_ok e
    cases h
    have := namesFrom_len ts ts.length (n + 1)
    refine ⟨by omega, by omega, ?_⟩
    simp
    omega
/-- a statement as it lies in the heap -/
structure StmW (C CT : Addr) (H : Hp) (q dq k ln lm : Addr) (ns ms : List Addr) (s : WStm) : Prop where
  ob : H q = some (.ins CT dq [("keyword", .ref k), ("names", .ref ln), ("numbers", .ref lm)])
  ke : TokAt C H k s.key
  nl : H ln = some (.lst (ns.map V.ref))
  ne : Each (TokAt C H) ns s.names
  ml : H lm = some (.lst (ms.map V.ref))
  me : Each (TokAt C H) ms s.numbers
  d : ln ≠ lm
theorem tok_ne {C CP : Addr} {H : Hp} {p dx : Addr} {fs : List (Str × V)} {a : Addr} {t : WTok} (hp : H p = some (.ins CP dx fs)) (hl : fs.length ≠ 4) (h : TokAt C H a t) : a ≠ p := fun e => by
  obtain ⟨dy, hy⟩ := h
  rw [e, hp] at hy
  injection hy with z
  injection z with e1 e2 e3
  rw [e3] at hl
  exact hl rfl
theorem tok_step {C CP : Addr} {H H' : Hp} {p dx : Addr} {fs : List (Str × V)} {a : Addr} {t : WTok} (hp : H p = some (.ins CP dx fs)) (hl : fs.length ≠ 4) (s : Same1 p H H') (h : TokAt C H a t) : TokAt C H' a t := by
  have hne := tok_ne hp hl h
  obtain ⟨dy, hy⟩ := h
  exact ⟨dy, s _ _ hne hy⟩
theorem StmW.step {C CT CP : Addr} {H H' : Hp} {q dq k ln lm : Addr} {ns ms : List Addr} {s : WStm} {p dx : Addr} {fs : List (Str × V)} (W : StmW C CT H q dq k ln lm ns ms s) (hp : H p = some (.ins CP dx fs)) (hl : fs.length ≠ 4) (hq : q ≠ p) (e : Same1 p H H') : StmW C CT H' q dq k ln lm ns ms s :=
  ⟨e _ _ hq W.ob, tok_step hp hl e W.ke, e _ _ (ne_of W.nl hp (by intro z; cases z)) W.nl, W.ne.imp fun _ _ h => tok_step hp hl e h, e _ _ (ne_of W.ml hp (by intro z; cases z)) W.ml, W.me.imp fun _ _ h => tok_step hp hl e h, W.d⟩
theorem tok_lst {C : Addr} {H : Hp} {l : Addr} {xs ys : List V} {a : Addr} {t : WTok} (hl : H l = some (.lst xs)) (h : TokAt C H a t) : TokAt C (upd H l (.lst ys)) a t := by
  obtain ⟨dy, hy⟩ := h
  exact ⟨dy, by rw [upd_ne (ne_of hy hl (by intro z; cases z))]; exact hy⟩
theorem StmW.names {C CT : Addr} {H : Hp} {q dq k ln lm : Addr} {ns ms as : List Addr} {s : WStm} {r : List WTok} (W : StmW C CT H q dq k ln lm ns ms s) (h : Each (TokAt C H) as r) : StmW C CT (upd H ln (.lst ((ns ++ as).map V.ref))) q dq k ln lm (ns ++ as) ms ⟨s.key, s.names ++ r, s.numbers⟩ :=
  ⟨by rw [upd_ne (ne_of W.ob W.nl (by intro z; cases z))]; exact W.ob, tok_lst W.nl W.ke, upd_same, (W.ne.append h).imp fun _ _ h => tok_lst W.nl h, by rw [upd_ne W.d.symm]; exact W.ml, W.me.imp fun _ _ h => tok_lst W.nl h, W.d⟩
theorem StmW.numbers {C CT : Addr} {H : Hp} {q dq k ln lm : Addr} {ns ms as : List Addr} {s : WStm} {r : List WTok} (W : StmW C CT H q dq k ln lm ns ms s) (h : Each (TokAt C H) as r) : StmW C CT (upd H lm (.lst ((ms ++ as).map V.ref))) q dq k ln lm ns (ms ++ as) ⟨s.key, s.names, s.numbers ++ r⟩ :=
  ⟨by rw [upd_ne (ne_of W.ob W.ml (by intro z; cases z))]; exact W.ob, tok_lst W.ml W.ke, by rw [upd_ne W.d]; exact W.nl, W.ne.imp fun _ _ h => tok_lst W.ml h, upd_same, (W.me.append h).imp fun _ _ h => tok_lst W.ml h, W.d⟩
theorem Each.one {α : Type} {R : Addr → α → Prop} {a : Addr} {t : α} (r : R a t) : Each R [a] [t] := Each.nil.snoc r
/-- a statement, whatever its lists' addresses -/
def StmAt (C CT : Addr) (H : Hp) (q : Addr) (s : WStm) : Prop := ∃ dq k ln lm ns ms, StmW C CT H q dq k ln lm ns ms s
/-- the same, its lists new since H0 -/
def StmN (C CT : Addr) (H0 H : Hp) (q : Addr) (s : WStm) : Prop := ∃ dq k ln lm ns ms, StmW C CT H q dq k ln lm ns ms s ∧ H0 ln = none ∧ H0 lm = none
theorem str_names : ("names" : Str) = S namesK := by decide +kernel
theorem oPar_len {l : Addr} {L n : Nat} : ([("tokens", V.ref l), ("lines", V.int (L : Nat)), ("taken", V.int (n : Nat))] : List (Str × V)).length ≠ 4 := by
  show (3 : Nat) ≠ 4
  decide
section
variable {P : Program} {w : World} {K : PySem.W.Frag} {mg : Str → Option Value} {base : Heap}
theorem sc_Parser_take_statement : FnScope ["self", "word", "statement", "part"] ["self", "word"] (defScope s_Parser_take_statement) := ⟨rfl, rfl, rfl, by decide +kernel, rfl, by decide +kernel, by decide +kernel⟩
def sp_Parser_take_statement (C CT CP CS : Addr) : Sp := fun vs H Q E => ∃ (p dx l : Addr) (as : List Addr) (ts : List WTok) (L n : Nat) (k : List Nat) (ps : List (List Nat)), vs = [.ref p, .str (S k)] ∧ ParAt C CP H p dx l as ts L n ∧ n ≤ ts.length ∧ ts.length ≤ 50000 ∧ forms k = some ps ∧ ps.length ≤ 10 ∧
  (∀ s m, takeStm L ts k n = .ok (s, m) → m ≤ ts.length → n < m → ∀ q H', H q = none → Same1 p H H' → H' p = some (.ins CP dx [("tokens", .ref l), ("lines", .int (L : Nat)), ("taken", .int (m : Nat))]) → StmN C CT H H' q s → Q (.ref q) H') ∧
  (∀ x y, takeStm L ts k n = .error (x, y) → ESyn1 CS p H E x y)
def ISta (C CT CP : Addr) (p dx l q dq kk ln lm : Addr) (as : List Addr) (ts : List WTok) (L n0 : Nat) (k : List Nat) (ps : List (List Nat)) (H : Hp) (i : Nat) (σ : L2.St) (H' : Hp) : Prop :=
  ∃ (n : Nat) (v : Option V) (ns ms : List Addr) (s : WStm), σ = [some (.ref p), some (.str (S k)), some (.ref q), v] ∧ Same1 p H H' ∧ ParAt C CP H' p dx l as ts L n ∧ n ≤ ts.length ∧ n0 < n ∧ StmW C CT H' q dq kk ln lm ns ms s ∧ s.names.length ≤ n ∧ s.numbers.length ≤ n ∧
    takeStm L ts k n0 = stmEnd L ts (takeParts L ts (ps.drop i) s n)
theorem ok_Parser_take_statement {f C CT CP CS CC : Addr} {fd : FuncData} (F : Fun K "take_statement" "Parser.take_statement" s_Parser_take_statement f fd) (T : TopF w K mg) (TK : CToken K C) (T_Parser : CParser K CP) (T_Statement : CStatement K CT)
    (D_Statement : DC P w K mg base CX0 1 CT "Statement" ["self", "keyword"] (sp_Statement___init__ CT))
    (D_Parser_take : DM P w K mg base (L2.CX P w) 7 CP "take" ["self", "kind"] (sp_Parser_take C CP CS)) (D_Parser_take_names : DM P w K mg base (L2.CX P w) 8 CP "take_names" ["self"] (sp_Parser_take_names C CP CS)) :
    FnOk P w K mg base (L2.CX P w) 10 f fd ["self", "word"] (sp_Parser_take_statement C CT CP CS) := by
  refine F.okX sc_Parser_take_statement (fun vs H Q E h => ?_) (fun cdv A outer s H vs Q E hr h => ?_)
  · obtain ⟨p, dx, l, as, ts, L, n, k, ps, rfl, _⟩ := h
    rfl
  · obtain ⟨p, dx, l, as, ts, L, n, k, ps, rfl, PA, hle, hlim, hps, hpl, kY, kN⟩ := h
    refine ⟨_, (pss_cons (ps_set (i := 2) sc_Parser_take_statement.nd rfl (Or.inl rfl) (pe_make D_Statement.M D_Statement.G (hr.mono (by decide)) rfl D_Statement.mg D_Statement.b .nil pass0 (pa_cons (pe_meth (pv 0) T_Parser.cl D_Parser_take.m D_Parser_take.G (hr.mono (by decide)) D_Parser_take.b .nil (passes_call (takes_of rfl rfl rfl rfl) fun _ _ _ _ z => z) (pa_cons (pv 1) pa_nil)) pa_nil)))
      (pss_cons (ps_for (passes_of rfl) rfl (pi_tup (pe_ix ix_kdict (pe_glob (v := .ref T.a_FORMS) rfl T.g_FORMS rfl) (pv 1) (fun _ _ => rfl))) (pg_name (i := 3) sc_Parser_take_statement.nd rfl (Or.inl rfl)) (pss_one (ps_if (pt_cmpR op_eq (pv 3) pe_str (nomark _)) (pss_one (ps_expr (pe_bm PySem.F.plainAttrs_list PySem.F.slot_list_extend PySem.F.type_list_extend mt_extend (pe_fld (pv 2) rfl) (pa_cons (pe_meth0 (pv 0) T_Parser.cl D_Parser_take_names.m D_Parser_take_names.G (hr.mono (by decide)) D_Parser_take_names.b .nil (passes_call (takes_of rfl rfl rfl rfl) fun _ _ _ _ z => z)) pa_nil)))) (pss_one (ps_if (pt_cmpR op_eq (pv 3) pe_str (nomark _)) (pss_one (ps_expr (pe_bm PySem.F.plainAttrs_list PySem.F.slot_list_append PySem.F.type_list_append mt_append (pe_fld (pv 2) rfl) (pa_cons (pe_meth (pv 0) T_Parser.cl D_Parser_take.m D_Parser_take.G (hr.mono (by decide)) D_Parser_take.b .nil (passes_call (takes_of rfl rfl rfl rfl) fun _ _ _ _ z => z) (pa_cons pe_str pa_nil)) pa_nil)))) (pss_one (ps_if (pt_cmpR op_eq (pv 3) pe_str (nomark _)) (pss_one (ps_expr (pe_bm PySem.F.plainAttrs_list PySem.F.slot_list_append PySem.F.type_list_append mt_append (pe_fld (pv 2) rfl) (pa_cons (pe_meth (pv 0) T_Parser.cl D_Parser_take.m D_Parser_take.G (hr.mono (by decide)) D_Parser_take.b .nil (passes_call (takes_of rfl rfl rfl rfl) fun _ _ _ _ z => z) (pa_cons pe_str pa_nil)) pa_nil)))) (pss_one (ps_expr (pe_meth (pv 0) T_Parser.cl D_Parser_take.m D_Parser_take.G (hr.mono (by decide)) D_Parser_take.b .nil (passes_call (takes_of rfl rfl rfl rfl) fun _ _ _ _ z => z) (pa_cons (pv 3) pa_nil)))))))))))
      (pss_cons (ps_expr (pe_meth (pv 0) T_Parser.cl D_Parser_take.m D_Parser_take.G (hr.mono (by decide)) D_Parser_take.b .nil (passes_call (takes_of rfl rfl rfl rfl) fun _ _ _ _ z => z) (pa_cons pe_str pa_nil)))
      (pss_one (ps_ret (pv 2)))))), ?_⟩
    walk_at "rd"
    simp only [PA.ob, V.ref.injEq, V.int.injEq, V.str.injEq, List.cons.injEq, Option.some.injEq, HO.ins.injEq, and_assoc, exists_and_left, exists_eq_left', exists_eq_left, true_and, and_true, upd_same, upd_upd, putF_nil, putF_cons, lookup_put, lookup_nil, if_false, if_true, List.length_cons, List.length_nil, exists_eq', exists_eq, Nat.reduceAdd, Nat.reduceLT, Nat.zero_add, n_tokens_lines, n_tokens_taken, n_lines_tokens, n_lines_taken, n_taken_tokens, n_taken_lines, n_ahead_tokens, n_ahead_lines, n_ahead_taken, n_refuse_tokens, n_refuse_lines, n_refuse_taken, n_take_tokens, n_take_lines, n_take_taken, n_take_names_tokens, n_take_names_lines, n_take_names_taken, n_take_statement_tokens, n_take_statement_lines, n_take_statement_taken]
    refine ⟨p, dx, l, as, ts, L, n, k, rfl, PA, hle, fun t m ht a hT => ?_, fun x y he => ?_⟩
    · obtain ⟨rfl, et, ek, hlt⟩ := takeN_ok ht
      intro q dq hq hdq hne
      refine ⟨q, dq, .ref a, rfl, upd_same, fun ln lm H2 hln hlm hd s2 eL eM eQ => ⟨rfl, ?_⟩⟩
      obtain ⟨fa, hns, hSq⟩ := T.f_get k ps hps
      have hqp : q ≠ p := fun e => by
        rw [e, upd_same] at hq
        cases hq
      have hq0 : H q = none := by
        rw [upd_ne hqp] at hq
        exact hq
      have hdp : dq ≠ p := fun e => by
        rw [e, upd_same] at hdq
        cases hdq
      have hd0 : H dq = none := by
        rw [upd_ne hdp] at hdq
        exact hdq
      have hln0 : H ln = none ∧ ln ≠ q ∧ ln ≠ p := by
        have n1 : ln ≠ q := fun e => by
          rw [e, upd_same] at hln
          cases hln
        rw [upd_ne n1] at hln
        have n2 : ln ≠ dq := fun e => by
          rw [e, upd_same] at hln
          cases hln
        rw [upd_ne n2] at hln
        have n3 : ln ≠ p := fun e => by
          rw [e, upd_same] at hln
          cases hln
        rw [upd_ne n3] at hln
        exact ⟨hln, n1, n3⟩
      have hlm0 : H lm = none ∧ lm ≠ q ∧ lm ≠ p := by
        have n1 : lm ≠ q := fun e => by
          rw [e, upd_same] at hlm
          cases hlm
        rw [upd_ne n1] at hlm
        have n2 : lm ≠ dq := fun e => by
          rw [e, upd_same] at hlm
          cases hlm
        rw [upd_ne n2] at hlm
        have n3 : lm ≠ p := fun e => by
          rw [e, upd_same] at hlm
          cases hlm
        rw [upd_ne n3] at hlm
        exact ⟨hlm, n1, n3⟩
      have s0 : Same1 p H (upd (upd (upd H p (.ins CP dx [("tokens", .ref l), ("lines", .int (L : Nat)), ("taken", .int ((n + 1 : Nat) : Int))])) dq (.own q)) q (.ins CT dq [])) := same1_mut (same1_mut (Same1.refl H).upd hd0) hq0
      have s1 : Same1 p H H2 := fun b o hb hu => s2 b o (ne_of_none hu hq0) (s0 b o hb hu)
      have hP2 : H2 p = some (.ins CP dx [("tokens", .ref l), ("lines", .int (L : Nat)), ("taken", .int ((n + 1 : Nat) : Int))]) := s2 _ _ hqp.symm (by rw [upd_ne hqp.symm, upd_ne hdp.symm, upd_same])
      have hW : StmW C CT H2 q dq a ln lm [] [] ⟨t, [], []⟩ := ⟨eQ, tok_step PA.ob oPar_len s1 hT, eL, Each.nil, eM, Each.nil, hd⟩
      have hres : takeStm L ts k n = stmEnd L ts (takeParts L ts (ps.drop 0) ⟨t, [], []⟩ (n + 1)) := by
        unfold takeStm
        rw [ht, hps]
        rfl
      refine ⟨_, rfl, T.a_FORMS, S k, .ref fa, rfl, rfl, ⟨T.es, T.en, .ref fa, T.kd.at_, T.kd.lit, hns, rfl⟩, fa, rfl, ⟨_, hSq _⟩, ?_⟩
      refine for_it (walk_tup (xs := ps.map fun k => V.str (S k))) (ISta C CT CP p dx l q dq a ln lm as ts L n k ps H) ?_ (fun i σ H' _ _ => hSq _) ?_ ?_
      · exact ⟨n + 1, none, [], [], ⟨t, [], []⟩, rfl, s1, PA.step s1 hP2, by omega, by omega, hW, Nat.zero_le _, Nat.zero_le _, hres⟩
      · rintro i x σ H3 H4 hi ⟨n1, v, ns, ms, s, rfl, s3, PB, hn1, hn0, W, c1, c2, e1⟩ ⟨rfl, ex⟩
        rw [List.length_map] at hi
        have ex' : x = V.str (S ps[i]) := by
          rw [List.getElem?_map, List.getElem?_eq_getElem hi] at ex
          exact (Option.some.inj ex).symm
        subst ex'
        rw [List.drop_eq_getElem_cons hi, takeParts] at e1
        have hqp' : q ≠ p := hqp
        walk_at "rd"
        have d1 : (S ps[i] = Str.ofString "names") ↔ ps[i] = namesK := by rw [str_names, S_eq]
        have d2 : (S ps[i] = Str.ofString "name") ↔ ps[i] = nameK := by rw [str_name, S_eq]
        have d3 : (S ps[i] = Str.ofString "number") ↔ ps[i] = numberK := by rw [str_number, S_eq]
        unfold takePart at e1
        by_cases g1 : ps[i] = namesK
        · rw [if_pos (d1.mpr g1)]
          rw [if_pos g1] at e1
          simp only [W.ob, T_Statement.cl, T_Statement.n2, V.ref.injEq, V.int.injEq, V.str.injEq, List.cons.injEq, Option.some.injEq, HO.ins.injEq, and_assoc, exists_and_left, exists_eq_left', exists_eq_left, true_and, and_true, upd_same, upd_upd, putF_nil, putF_cons, lookup_put, lookup_nil, if_false, if_true, List.length_cons, List.length_nil, exists_eq', exists_eq, Nat.reduceAdd, Nat.reduceLT, Nat.zero_add, n_keyword_names, n_keyword_numbers, n_names_keyword, n_names_numbers, n_numbers_keyword, n_numbers_names]
          refine ⟨tyV_lst W.nl, ?_⟩
          simp only [PB.ob, V.ref.injEq, V.int.injEq, V.str.injEq, List.cons.injEq, Option.some.injEq, HO.ins.injEq, and_assoc, exists_and_left, exists_eq_left', exists_eq_left, true_and, and_true, upd_same, upd_upd, putF_nil, putF_cons, lookup_put, lookup_nil, if_false, if_true, List.length_cons, List.length_nil, exists_eq', exists_eq, Nat.reduceAdd, Nat.reduceLT, Nat.zero_add, n_tokens_lines, n_tokens_taken, n_lines_tokens, n_lines_taken, n_taken_tokens, n_taken_lines, n_ahead_tokens, n_ahead_lines, n_ahead_taken, n_refuse_tokens, n_refuse_lines, n_refuse_taken, n_take_tokens, n_take_lines, n_take_taken, n_take_names_tokens, n_take_names_lines, n_take_names_taken, n_take_statement_tokens, n_take_statement_lines, n_take_statement_taken]
          refine ⟨p, dx, l, as, ts, L, n1, rfl, PB, hn1, hlim, fun r m hr2 u H5 hu s5 hP5 hL5 => ?_, fun x y he => ?_⟩
          · rw [hr2] at e1
            dsimp only at e1
            obtain ⟨q1, q2, q3⟩ := takeNames_le hr2
            obtain ⟨bs, hb1, hb2⟩ := hL5
            have W5 := W.step PB.ob oPar_len hqp' s5
            walk_at "rd"
            refine ⟨ns.map V.ref, W5.nl, bs.map V.ref, hb1, line_of (by rw [List.length_map, List.length_map, W.ne.1, hb2.1, q3]; omega), ?_⟩
            have W6 := W5.names hb2
            have s6 : Same1 p H (upd H5 ln (.lst ((ns ++ bs).map V.ref))) := same1_mut (s3.trans s5) hln0.1
            refine ⟨m, _, ns ++ bs, ms, _, rfl, by rw [← List.map_append]; exact s6, by rw [← List.map_append]; exact PA.step s6 (by rw [upd_ne hln0.2.2.symm]; exact hP5), q2, by omega, by rw [← List.map_append]; exact W6, by simp; omega, by show s.numbers.length ≤ m; omega, e1⟩
          · rw [he] at e1
            exact (kN x y e1).mono s3 ⟨_, PB.ob⟩
        · rw [if_neg (mt d1.mp g1)]
          rw [if_neg g1] at e1
          by_cases g2 : ps[i] = nameK
          · rw [if_pos (d2.mpr g2)]
            rw [if_pos g2] at e1
            simp only [W.ob, T_Statement.cl, T_Statement.n2, V.ref.injEq, V.int.injEq, V.str.injEq, List.cons.injEq, Option.some.injEq, HO.ins.injEq, and_assoc, exists_and_left, exists_eq_left', exists_eq_left, true_and, and_true, upd_same, upd_upd, putF_nil, putF_cons, lookup_put, lookup_nil, if_false, if_true, List.length_cons, List.length_nil, exists_eq', exists_eq, Nat.reduceAdd, Nat.reduceLT, Nat.zero_add, n_keyword_names, n_keyword_numbers, n_names_keyword, n_names_numbers, n_numbers_keyword, n_numbers_names]
            refine ⟨tyV_lst W.nl, ?_⟩
            simp only [PB.ob, V.ref.injEq, V.int.injEq, V.str.injEq, List.cons.injEq, Option.some.injEq, HO.ins.injEq, and_assoc, exists_and_left, exists_eq_left', exists_eq_left, true_and, and_true, upd_same, upd_upd, putF_nil, putF_cons, lookup_put, lookup_nil, if_false, if_true, List.length_cons, List.length_nil, exists_eq', exists_eq, Nat.reduceAdd, Nat.reduceLT, Nat.zero_add, n_tokens_lines, n_tokens_taken, n_lines_tokens, n_lines_taken, n_taken_tokens, n_taken_lines, n_ahead_tokens, n_ahead_lines, n_ahead_taken, n_refuse_tokens, n_refuse_lines, n_refuse_taken, n_take_tokens, n_take_lines, n_take_taken, n_take_names_tokens, n_take_names_lines, n_take_names_taken, n_take_statement_tokens, n_take_statement_lines, n_take_statement_taken]
            refine ⟨p, dx, l, as, ts, L, n1, nameK, by rw [str_name], PB, hn1, fun t2 m hr2 a2 hT2 => ?_, fun x y he => ?_⟩
            · rw [hr2] at e1
              dsimp only at e1
              obtain ⟨rfl, _, _, q2⟩ := takeN_ok hr2
              have s5 : Same1 p H4 (upd H4 p (.ins CP dx [("tokens", .ref l), ("lines", .int (L : Nat)), ("taken", .int ((n1 + 1 : Nat) : Int))])) := (Same1.refl H4).upd
              have W5 := W.step PB.ob oPar_len hqp' s5
              walk_at "rd"
              refine ⟨ns.map V.ref, W5.nl, line_lt (by rw [List.length_map, W.ne.1]; omega), ?_⟩
              have W6 := W5.names (Each.one (tok_step PB.ob oPar_len s5 hT2))
              have s6 : Same1 p H (upd (upd H4 p (.ins CP dx [("tokens", .ref l), ("lines", .int (L : Nat)), ("taken", .int ((n1 + 1 : Nat) : Int))])) ln (.lst ((ns ++ [a2]).map V.ref))) := same1_mut (s3.trans s5) hln0.1
              refine ⟨n1 + 1, _, ns ++ [a2], ms, _, rfl, by simpa using s6, by simpa using PA.step s6 (by rw [upd_ne hln0.2.2.symm, upd_same]), by omega, by omega, by simpa using W6, by simp; omega, by show s.numbers.length ≤ n1 + 1; omega, e1⟩
            · rw [he] at e1
              exact (kN x y e1).to s3 ⟨_, PA.ob⟩ ⟨_, PB.ob⟩
          · rw [if_neg (mt d2.mp g2)]
            rw [if_neg g2] at e1
            by_cases g3 : ps[i] = numberK
            · rw [if_pos (d3.mpr g3)]
              rw [if_pos g3] at e1
              simp only [W.ob, T_Statement.cl, T_Statement.n3, V.ref.injEq, V.int.injEq, V.str.injEq, List.cons.injEq, Option.some.injEq, HO.ins.injEq, and_assoc, exists_and_left, exists_eq_left', exists_eq_left, true_and, and_true, upd_same, upd_upd, putF_nil, putF_cons, lookup_put, lookup_nil, if_false, if_true, List.length_cons, List.length_nil, exists_eq', exists_eq, Nat.reduceAdd, Nat.reduceLT, Nat.zero_add, n_keyword_names, n_keyword_numbers, n_names_keyword, n_names_numbers, n_numbers_keyword, n_numbers_names]
              refine ⟨tyV_lst W.ml, ?_⟩
              simp only [PB.ob, V.ref.injEq, V.int.injEq, V.str.injEq, List.cons.injEq, Option.some.injEq, HO.ins.injEq, and_assoc, exists_and_left, exists_eq_left', exists_eq_left, true_and, and_true, upd_same, upd_upd, putF_nil, putF_cons, lookup_put, lookup_nil, if_false, if_true, List.length_cons, List.length_nil, exists_eq', exists_eq, Nat.reduceAdd, Nat.reduceLT, Nat.zero_add, n_tokens_lines, n_tokens_taken, n_lines_tokens, n_lines_taken, n_taken_tokens, n_taken_lines, n_ahead_tokens, n_ahead_lines, n_ahead_taken, n_refuse_tokens, n_refuse_lines, n_refuse_taken, n_take_tokens, n_take_lines, n_take_taken, n_take_names_tokens, n_take_names_lines, n_take_names_taken, n_take_statement_tokens, n_take_statement_lines, n_take_statement_taken]
              refine ⟨p, dx, l, as, ts, L, n1, numberK, by rw [str_number], PB, hn1, fun t2 m hr2 a2 hT2 => ?_, fun x y he => ?_⟩
              · rw [hr2] at e1
                dsimp only at e1
                obtain ⟨rfl, _, _, q2⟩ := takeN_ok hr2
                have s5 : Same1 p H4 (upd H4 p (.ins CP dx [("tokens", .ref l), ("lines", .int (L : Nat)), ("taken", .int ((n1 + 1 : Nat) : Int))])) := (Same1.refl H4).upd
                have W5 := W.step PB.ob oPar_len hqp' s5
                walk_at "rd"
                refine ⟨ms.map V.ref, W5.ml, line_lt (by rw [List.length_map, W.me.1]; omega), ?_⟩
                have W6 := W5.numbers (Each.one (tok_step PB.ob oPar_len s5 hT2))
                have s6 : Same1 p H (upd (upd H4 p (.ins CP dx [("tokens", .ref l), ("lines", .int (L : Nat)), ("taken", .int ((n1 + 1 : Nat) : Int))])) lm (.lst ((ms ++ [a2]).map V.ref))) := same1_mut (s3.trans s5) hlm0.1
                refine ⟨n1 + 1, _, ns, ms ++ [a2], _, rfl, by simpa using s6, by simpa using PA.step s6 (by rw [upd_ne hlm0.2.2.symm, upd_same]), by omega, by omega, by simpa using W6, by show s.names.length ≤ n1 + 1; omega, by simp; omega, e1⟩
              · rw [he] at e1
                exact (kN x y e1).to s3 ⟨_, PA.ob⟩ ⟨_, PB.ob⟩
            · rw [if_neg (mt d3.mp g3)]
              rw [if_neg g3] at e1
              simp only [PB.ob, V.ref.injEq, V.int.injEq, V.str.injEq, List.cons.injEq, Option.some.injEq, HO.ins.injEq, and_assoc, exists_and_left, exists_eq_left', exists_eq_left, true_and, and_true, upd_same, upd_upd, putF_nil, putF_cons, lookup_put, lookup_nil, if_false, if_true, List.length_cons, List.length_nil, exists_eq', exists_eq, Nat.reduceAdd, Nat.reduceLT, Nat.zero_add, n_tokens_lines, n_tokens_taken, n_lines_tokens, n_lines_taken, n_taken_tokens, n_taken_lines, n_ahead_tokens, n_ahead_lines, n_ahead_taken, n_refuse_tokens, n_refuse_lines, n_refuse_taken, n_take_tokens, n_take_lines, n_take_taken, n_take_names_tokens, n_take_names_lines, n_take_names_taken, n_take_statement_tokens, n_take_statement_lines, n_take_statement_taken]
              refine ⟨p, dx, l, as, ts, L, n1, ps[i], rfl, PB, hn1, fun t2 m hr2 a2 hT2 => ?_, fun x y he => ?_⟩
              · rw [hr2] at e1
                dsimp only at e1
                obtain ⟨rfl, _, _, q2⟩ := takeN_ok hr2
                have s5 : Same1 p H4 (upd H4 p (.ins CP dx [("tokens", .ref l), ("lines", .int (L : Nat)), ("taken", .int ((n1 + 1 : Nat) : Int))])) := (Same1.refl H4).upd
                exact ⟨n1 + 1, _, ns, ms, s, rfl, s3.trans s5, PA.step (s3.trans s5) upd_same, by omega, by omega, W.step PB.ob oPar_len hqp' s5, by omega, by omega, e1⟩
              · rw [he] at e1
                exact (kN x y e1).to s3 ⟨_, PA.ob⟩ ⟨_, PB.ob⟩
      · rintro σ H3 ⟨n1, v, ns, ms, s, rfl, s3, PB, hn1, hn0, W, c1, c2, e1⟩
        rw [List.length_map, List.drop_length, takeParts, stmEnd] at e1
        walk_at "rd"
        simp only [PB.ob, V.ref.injEq, V.int.injEq, V.str.injEq, List.cons.injEq, Option.some.injEq, HO.ins.injEq, and_assoc, exists_and_left, exists_eq_left', exists_eq_left, true_and, and_true, upd_same, upd_upd, putF_nil, putF_cons, lookup_put, lookup_nil, if_false, if_true, List.length_cons, List.length_nil, exists_eq', exists_eq, Nat.reduceAdd, Nat.reduceLT, Nat.zero_add, n_tokens_lines, n_tokens_taken, n_lines_tokens, n_lines_taken, n_taken_tokens, n_taken_lines, n_ahead_tokens, n_ahead_lines, n_ahead_taken, n_refuse_tokens, n_refuse_lines, n_refuse_taken, n_take_tokens, n_take_lines, n_take_taken, n_take_names_tokens, n_take_names_lines, n_take_names_taken, n_take_statement_tokens, n_take_statement_lines, n_take_statement_taken]
        refine ⟨p, dx, l, as, ts, L, n1, [59], by rw [str_semi], PB, hn1, fun t2 m hr2 a2 hT2 => ?_, fun x y he => ?_⟩
        · rw [hr2] at e1
          dsimp only at e1
          obtain ⟨rfl, _, _, q2⟩ := takeN_ok hr2
          have s5 : Same1 p H3 (upd H3 p (.ins CP dx [("tokens", .ref l), ("lines", .int (L : Nat)), ("taken", .int ((n1 + 1 : Nat) : Int))])) := (Same1.refl H3).upd
          exact kY s (n1 + 1) e1 (by omega) (by omega) q _ hq0 (s3.trans s5) upd_same ⟨_, _, _, _, _, _, W.step PB.ob oPar_len hqp s5, hln0.1, hlm0.1⟩
        · rw [he] at e1
          exact (kN x y e1).to s3 ⟨_, PA.ob⟩ ⟨_, PB.ob⟩
    · have : takeStm L ts k n = .error (x, y) := by
        unfold takeStm
        rw [he]
      exact (kN x y this).to (Same1.refl H) ⟨_, PA.ob⟩ ⟨_, PA.ob⟩
end

end Wv
end WvP3_
section WvP4_
set_option Elab.async false
set_option linter.all false
set_option maxRecDepth 100000
set_option maxHeartbeats 4000000
namespace Wv
open PySem L2
open SX (S S_len S_inj)
local macro_rules | `(tactic| walk_at "rd") => `(tactic| (try simp only [tVar, tC, tB, tAnd, tOr, tNot, tAndV, tOrV, tNotV, tIf, tNext, tSeq, tBreak, tCont, tDrop, tRet, tRetN, tIfS, gName, gNil, gCons, gTup, gSub, tAsg, tPar, tAug, tOp, tUn, rI, rI0, rU, rEq, rNe, tTest, tFld, tNil, tCons, tTup, tLst, tCB, tNoPart, tPart, tSl, rIxL, rIxT, rIxS, rSlL, rSlS, tBM0, tBM, rAppend, rExtend, rCat, rRep, rSetL, tM0, tM1, tCall, tMeth, tMake, sFld, sFldAug, rAdd, rSub, ipI, tBM0,
  scal_ss, scal_ii, scal_bb, scal_ns, scal_sn, scal_nn, tyV_str, L2.start, List.map_cons, List.map_nil, List.length_cons, List.length_nil, List.replicate, List.cons_append, List.nil_append, List.append_nil, List.getElem?_cons_zero, List.getElem?_cons_succ, List.set_cons_zero, List.set_cons_succ, Nat.reduceAdd, Nat.reduceSub, Nat.zero_add, Nat.sub_self, Nat.add_one_sub_one,
  Option.some.injEq, exists_eq_left, exists_eq_left', exists_eq', exists_eq, V.int.injEq, V.str.injEq, V.ref.injEq, V.bl.injEq, reduceCtorEq, List.cons.injEq, and_true, true_and, exists_and_left, exists_and_right, and_assoc, decide_true, decide_false, if_true, if_false, ite_true, ite_false, Bool.false_eq_true, Bool.true_eq_false, eq_self_iff_true, cx_K, nox_K, tMkSyn, tMkChk, tYes, bne, ne_eq, not_false_eq_true, not_true_eq_false, Bool.not_true, Bool.not_false, decide_eq_true_eq, Bool.not_eq_true', decide_eq_false_iff_not]))
/-- what is read of the head: its statements, and how many tokens they take -/
def parseHead (L : Nat) (ts : List WTok) : List (List Nat) → Nat → Except (Nat × Nat) (List WStm × Nat)
  | [], n => .ok ([], n)
  | k :: ks, n => match takeStm L ts k n with
    | .error e => .error e
    | .ok (s, m) => match parseHead L ts ks m with | .error e => .error e | .ok (r, m2) => .ok (s :: r, m2)
def parseRest (L : Nat) (ts : List WTok) : Nat → Nat → Except (Nat × Nat) (List WStm)
  | 0, _ => .ok []
  | f + 1, n => match ts[n]? with
    | none => .ok []
    | some t => if t.kind ∈ headL ∨ forms t.kind = none then .error (fault L ts n) else match takeStm L ts t.kind n with
      | .error e => .error e
      | .ok (s, m) => match parseRest L ts f m with | .error e => .error e | .ok r => .ok (s :: r)
def parseToks (L : Nat) (ts : List WTok) : Except (Nat × Nat) (List WStm) := match parseHead L ts headL 0 with
  | .error e => .error e
  | .ok (r, n) => match parseRest L ts (ts.length + 1) n with | .error e => .error e | .ok q => .ok (r ++ q)
def parse (z : List Nat) : Except (Nat × Nat) (List WStm) := match lex z with
  | .error e => .error e
  | .ok ts => parseToks (rowsOf z).length ts
def BTok (t : WTok) : Prop := t.line ≤ 100000 ∧ t.col ≤ 100000 ∧ t.kind ∈ kinds
theorem wordKind_in (wd : List Nat) : wordKind wd ∈ kinds := by
  unfold wordKind kinds
  by_cases h : wd ∈ keywords
  · rw [if_pos h]
    exact List.mem_append_left _ h
  · rw [if_neg h]
    exact List.mem_append_right _ (by decide)
theorem tokAt_kind {row : List Nat} {ln c : Nat} {t : WTok} (h : tokAt row ln c = some t) : t.kind ∈ kinds := by
  unfold tokAt at h
  by_cases h1 : row[c]? = some 59
  · rw [if_pos h1] at h
    cases h
    show [59] ∈ kinds
    decide
  · rw [if_neg h1] at h
    by_cases h2 : run letters row c ≠ [] ∧ (run letters row c).length ≤ 8
    · rw [if_pos h2] at h
      cases h
      exact wordKind_in _
    · rw [if_neg h2] at h
      cases hn : isNumber (run digits row c) with
      | false => rw [hn] at h; cases h
      | true =>
        rw [hn] at h
        cases h
        show numberK ∈ kinds
        decide
theorem rowFrom_b {row : List Nat} {ln : Nat} (hl : ln ≤ 100000) (hr : row.length ≤ 100000) : ∀ (f c : Nat) (ts : List WTok), rowFrom row ln f c = .ok ts → (∀ t ∈ ts, BTok t) ∧ (ts.length ≤ f)
  | 0, c, ts, h => by
    cases h
    exact ⟨fun t z => (by cases z), Nat.le_refl _⟩
  | f + 1, c, ts, h => by
    unfold rowFrom at h
    by_cases hc : c < row.length
    · rw [if_pos hc] at h
      by_cases h32 : row[c]? = some 32
      · rw [if_pos h32] at h
        have := rowFrom_b hl hr f _ ts h
        exact ⟨this.1, by omega⟩
      · rw [if_neg h32] at h
        cases e : tokAt row ln c with
        | none => rw [e] at h; cases h
        | some t =>
          rw [e] at h
          dsimp only at h
          cases e2 : rowFrom row ln f (c + t.text.length) with
          | error x => rw [e2] at h; cases h
          | ok us =>
            rw [e2] at h
            cases h
            have ih := rowFrom_b hl hr f _ us e2
            obtain ⟨_, _, g1, g2⟩ := tokAt_pos e
            refine ⟨fun u hu => ?_, by simp; omega⟩
            rcases List.mem_cons.mp hu with rfl | hu
            · exact ⟨by omega, by omega, tokAt_kind e⟩
            · exact ih.1 u hu
    · rw [if_neg hc] at h
      cases h
      exact ⟨fun t z => (by cases z), Nat.zero_le _⟩
theorem lexFrom_b : ∀ (rs : List (List Nat)) (ln : Nat) (ts : List WTok), ln + rs.length ≤ 100000 → (∀ r ∈ rs, r.length ≤ 100000) → lexFrom ln rs = .ok ts → ∀ t ∈ ts, BTok t
  | [], ln, ts, _, _, h, t, ht => by cases h; cases ht
  | r :: rs, ln, ts, hl, hr, h, t, ht => by
    rw [List.length_cons] at hl
    unfold lexFrom at h
    cases e : rowToks r ln with
    | error x => rw [e] at h; cases h
    | ok us =>
      rw [e] at h
      dsimp only at h
      cases e2 : lexFrom (ln + 1) rs with
      | error x => rw [e2] at h; cases h
      | ok vs =>
        rw [e2] at h
        cases h
        rcases List.mem_append.mp ht with ht | ht
        · exact (rowFrom_b (by omega) (hr r (List.mem_cons_self ..)) _ _ _ e).1 t ht
        · exact lexFrom_b rs (ln + 1) vs (by omega) (fun q hq => hr q (List.mem_cons_of_mem _ hq)) e2 t ht
theorem lex_b {z : List Nat} {ts : List WTok} (hz : z.length ≤ 40000) (h : lex z = .ok ts) : ∀ t ∈ ts, BTok t := by
  have hw := rows_weight z
  refine lexFrom_b (rowsOf z) 0 ts (by omega) (fun r hr => ?_) h
  obtain ⟨i, hi, rfl⟩ := List.getElem_of_mem hr
  have := row_le hi
  omega
theorem ESyn.to1 {CS p : Addr} {H H' : Hp} {E : XK} {l c : Nat} (h : ESyn CS H E l c) (s : Same H H') (hp : H p = none) : ESyn1 CS p H' E l c := fun d fs H2 hd s1 => h d fs H2 (s.free hd) (Same1.same s hp s1)
theorem ParAt.lst {C CP : Addr} {H : Hp} {p dx l q : Addr} {as : List Addr} {ts : List WTok} {L n : Nat} {xs ys : List V} (P : ParAt C CP H p dx l as ts L n) (hq : H q = some (.lst xs)) (h : q ≠ l) : ParAt C CP (upd H q (.lst ys)) p dx l as ts L n :=
  ⟨by rw [upd_ne (ne_of P.ob hq (by intro z; cases z))]; exact P.ob, by rw [upd_ne h.symm]; exact P.ls, P.ea.imp fun _ _ h => tok_lst hq h, P.bl, P.bt⟩
theorem stm_ne {CT CP : Addr} {H : Hp} {q p dq dx : Addr} {k ln lm l : V} {v1 v2 : V} (hq : H q = some (.ins CT dq [("keyword", k), ("names", ln), ("numbers", lm)])) (hp : H p = some (.ins CP dx [("tokens", l), ("lines", v1), ("taken", v2)])) : q ≠ p := ne_of hq hp (by
  intro z
  injection z with e1 e2 e3
  injection e3 with e4 e5
  injection e4 with e6 e7
  exact absurd e6 (by decide +kernel))
/-- a statement whose lists are not the list at q -/
def StmX (C CT q : Addr) (H : Hp) (a : Addr) (s : WStm) : Prop := ∃ dq k ln lm ns ms, StmW C CT H a dq k ln lm ns ms s ∧ ln ≠ q ∧ lm ≠ q
theorem StmX.step {C CT CP q p dx l a : Addr} {H H' : Hp} {v1 v2 : V} {s : WStm} (h : StmX C CT q H a s) (hp : H p = some (.ins CP dx [("tokens", .ref l), ("lines", v1), ("taken", v2)])) (e : Same1 p H H') : StmX C CT q H' a s := by
  obtain ⟨dq, k, ln, lm, ns, ms, W, h1, h2⟩ := h
  exact ⟨dq, k, ln, lm, ns, ms, W.step hp (by show (3 : Nat) ≠ 4; decide) (stm_ne W.ob hp) e, h1, h2⟩
theorem StmX.lst {C CT q a : Addr} {H : Hp} {xs ys : List V} {s : WStm} (hq : H q = some (.lst xs)) (h : StmX C CT q H a s) : StmX C CT q (upd H q (.lst ys)) a s := by
  obtain ⟨dq, k, ln, lm, ns, ms, W, h1, h2⟩ := h
  exact ⟨dq, k, ln, lm, ns, ms, ⟨by rw [upd_ne (ne_of W.ob hq (by intro z; cases z))]; exact W.ob, tok_lst hq W.ke, by rw [upd_ne h1]; exact W.nl, W.ne.imp fun _ _ h => tok_lst hq h, by rw [upd_ne h2]; exact W.ml, W.me.imp fun _ _ h => tok_lst hq h, W.d⟩, h1, h2⟩
theorem StmX.at_ {C CT q a : Addr} {H : Hp} {s : WStm} (h : StmX C CT q H a s) : StmAt C CT H a s := by
  obtain ⟨dq, k, ln, lm, ns, ms, W, h1, h2⟩ := h
  exact ⟨dq, k, ln, lm, ns, ms, W⟩
theorem forms_len {k : List Nat} {ps : List (List Nat)} (h : forms k = some ps) : ps.length ≤ 10 := by
  have key : ∀ (l : List (List Nat × List (List Nat))), (∀ x ∈ l, x.2.length ≤ 10) → l.lookup k = some ps → ps.length ≤ 10 := by
    intro l
    induction l with
    | nil => intro _ z; cases z
    | cons a r ih =>
      intro hb z
      rw [List.lookup] at z
      split at z
      · cases z
        exact hb a (List.mem_cons_self ..)
      · exact ih (fun x hx => hb x (List.mem_cons_of_mem _ hx)) z
  exact key formsL (by decide) h
section
variable {P : Program} {w : World} {K : PySem.W.Frag} {mg : Str → Option Value} {base : Heap}
theorem sc_Parser___init__ : FnScope ["self", "plan"] ["self", "plan"] (defScope s_Parser___init__) := ⟨rfl, rfl, rfl, by decide +kernel, rfl, by decide +kernel, by decide +kernel⟩
def sp_Parser___init__ (C CP CS : Addr) : Sp := fun vs H Q E => ∃ (p dx : Addr) (z : List Nat), vs = [.ref p, .str (S z)] ∧ H p = some (.ins CP dx []) ∧ z.length ≤ 40000 ∧
  (∀ ts, lex z = .ok ts → ts.length ≤ z.length → ∀ l as H', Same1 p H H' → ParAt C CP H' p dx l as ts (rowsOf z).length 0 → Q .non H') ∧ (∀ x y, lex z = .error (x, y) → ESyn CS H E x y)
theorem ok_Parser___init__ {f C CP CS CC : Addr} {fd : FuncData} (F : Fun K "__init__" "Parser.__init__" s_Parser___init__ f fd) (T_Parser : CParser K CP)
    (D_read_tokens : DF P w K mg base (L2.CX P w) 8 "read_tokens" ["plan"] (sp_read_tokens C CS)) (D_count_lines : DF P w K mg base CX0 1 "count_lines" ["plan"] sp_count_lines) :
    FnOk P w K mg base (L2.CX P w) 9 f fd ["self", "plan"] (sp_Parser___init__ C CP CS) := by
  refine F.okX sc_Parser___init__ (fun vs H Q E h => ?_) (fun cdv A outer s H vs Q E hr h => ?_)
  · obtain ⟨p, dx, z, rfl, _⟩ := h
    rfl
  · obtain ⟨p, dx, z, rfl, hp, hz, kY, kN⟩ := h
    refine ⟨_, (pss_cons (ps_fld (pv 0) (pe_call D_read_tokens.G (hr.mono (by decide)) rfl D_read_tokens.mg D_read_tokens.kp D_read_tokens.b .nil (passes_call (takes_of rfl rfl rfl rfl) fun _ _ _ _ z => z) (pa_cons (pv 1) pa_nil)) rfl)
      (pss_cons (ps_fld (pv 0) (pe_call D_count_lines.G (hr.mono (by decide)) rfl D_count_lines.mg D_count_lines.kp D_count_lines.b .nil pass0 (pa_cons (pv 1) pa_nil)) rfl)
      (pss_one (ps_fld (pv 0) pe_int rfl)))), ?_⟩
    walk_at "rd"
    refine ⟨z, rfl, hz, fun ts hts hle l H2 hl s2 hL => ?_, kN⟩
    obtain ⟨as, hL1, hL2⟩ := hL
    have hp2 := s2 _ _ hp
    simp only [hp2, T_Parser.cl, T_Parser.n1, T_Parser.n2, T_Parser.n3, V.ref.injEq, V.int.injEq, V.str.injEq, List.cons.injEq, Option.some.injEq, HO.ins.injEq, and_assoc, exists_and_left, exists_eq_left', exists_eq_left, true_and, and_true, upd_same, upd_upd, putF_nil, putF_cons, lookup_put, lookup_nil, if_false, if_true, List.length_cons, List.length_nil, exists_eq', exists_eq, Nat.reduceAdd, Nat.reduceLT, Nat.zero_add, n_tokens_lines, n_tokens_taken, n_lines_tokens, n_lines_taken, n_taken_tokens, n_taken_lines, n_ahead_tokens, n_ahead_lines, n_ahead_taken, n_refuse_tokens, n_refuse_lines, n_refuse_taken, n_take_tokens, n_take_lines, n_take_taken, n_take_names_tokens, n_take_names_lines, n_take_names_taken, n_take_statement_tokens, n_take_statement_lines, n_take_statement_taken]
    refine ⟨z, rfl, ?_⟩
    walk_at "rd"
    simp only [hp2, T_Parser.cl, T_Parser.n1, T_Parser.n2, T_Parser.n3, V.ref.injEq, V.int.injEq, V.str.injEq, List.cons.injEq, Option.some.injEq, HO.ins.injEq, and_assoc, exists_and_left, exists_eq_left', exists_eq_left, true_and, and_true, upd_same, upd_upd, putF_nil, putF_cons, lookup_put, lookup_nil, if_false, if_true, List.length_cons, List.length_nil, exists_eq', exists_eq, Nat.reduceAdd, Nat.reduceLT, Nat.zero_add, n_tokens_lines, n_tokens_taken, n_lines_tokens, n_lines_taken, n_taken_tokens, n_taken_lines, n_ahead_tokens, n_ahead_lines, n_ahead_taken, n_refuse_tokens, n_refuse_lines, n_refuse_taken, n_take_tokens, n_take_lines, n_take_taken, n_take_names_tokens, n_take_names_lines, n_take_names_taken, n_take_statement_tokens, n_take_statement_lines, n_take_statement_taken]
    have hlp : l ≠ p := ne_of hL1 hp2 (by intro q; cases q)
    have hw := rows_weight z
    refine kY ts hts hle l as _ (Same1.of s2).upd ⟨upd_same, by rw [upd_ne hlp]; exact hL1, hL2.imp fun a t h => tok_step hp2 (by show (0 : Nat) ≠ 4; decide) (Same1.refl H2).upd h, by omega, lex_b hz hts⟩
theorem sc_parse_plan : FnScope ["plan", "parser", "statements", "word"] ["plan"] (defScope s_parse_plan) := ⟨rfl, rfl, rfl, by decide +kernel, rfl, by decide +kernel, by decide +kernel⟩
def sp_parse_plan (C CT CS : Addr) : Sp := fun vs H Q E => ∃ z : List Nat, vs = [.str (S z)] ∧ z.length ≤ 40000 ∧
  (∀ ss, parse z = .ok ss → ∀ q H', H q = none → Same H H' → LstAt (StmAt C CT) H' q ss → Q (.ref q) H') ∧ (∀ x y, parse z = .error (x, y) → ESyn CS H E x y)
def IHd (C CT CP : Addr) (z : List Nat) (p dx l q : Addr) (as : List Addr) (ts : List WTok) (L : Nat) (H : Hp) (i : Nat) (σ : L2.St) (H' : Hp) : Prop :=
  ∃ (n : Nat) (v : Option V) (qs : List Addr) (ss : List WStm), σ = [some (.str (S z)), some (.ref p), some (.ref q), v] ∧ Same H H' ∧ ParAt C CP H' p dx l as ts L n ∧ n ≤ ts.length ∧ H' q = some (.lst (qs.map V.ref)) ∧ Each (StmX C CT q H') qs ss ∧ ss.length ≤ n ∧
    parseHead L ts headL 0 = (match parseHead L ts (headL.drop i) n with | .error e => .error e | .ok (r, m) => .ok (ss ++ r, m))
def IRs (C CT CP : Addr) (z : List Nat) (p dx l q : Addr) (as : List Addr) (ts : List WTok) (L : Nat) (H : Hp) (m : Nat) (σ : L2.St) (H' : Hp) : Prop :=
  ∃ (n : Nat) (v : Option V) (qs : List Addr) (ss : List WStm), σ = [some (.str (S z)), some (.ref p), some (.ref q), v] ∧ Same H H' ∧ ParAt C CP H' p dx l as ts L n ∧ n ≤ ts.length ∧ H' q = some (.lst (qs.map V.ref)) ∧ Each (StmX C CT q H') qs ss ∧ ss.length ≤ n ∧ ts.length + 1 ≤ m + n ∧
    parseToks L ts = (match parseRest L ts m n with | .error e => .error e | .ok r => .ok (ss ++ r))
theorem ok_parse_plan {f C CT CP CS CC : Addr} {fd : FuncData} (F : Fun K "parse_plan" "parse_plan" s_parse_plan f fd) (T : TopF w K mg) (T_Parser : CParser K CP)
    (D_Parser : DC P w K mg base (L2.CX P w) 9 CP "Parser" ["self", "plan"] (sp_Parser___init__ C CP CS)) (D_Parser_ahead : DM P w K mg base CX0 1 CP "ahead" ["self"] (sp_Parser_ahead C CP))
    (D_Parser_refuse : DM P w K mg base (L2.CX P w) 6 CP "refuse" ["self"] (sp_Parser_refuse C CP CS)) (D_Parser_take_statement : DM P w K mg base (L2.CX P w) 10 CP "take_statement" ["self", "word"] (sp_Parser_take_statement C CT CP CS)) :
    FnOk P w K mg base (L2.CX P w) 12 f fd ["plan"] (sp_parse_plan C CT CS) := by
  refine F.okX sc_parse_plan (fun vs H Q E h => ?_) (fun cdv A outer s H vs Q E hr h => ?_)
  · obtain ⟨z, rfl, _⟩ := h
    rfl
  · obtain ⟨z, rfl, hz, kY, kN⟩ := h
    refine ⟨_, (pss_cons (ps_set (i := 1) sc_parse_plan.nd rfl (Or.inl rfl) (pe_make D_Parser.M D_Parser.G (hr.mono (by decide)) rfl D_Parser.mg D_Parser.b .nil (passes_call (takes_of rfl rfl rfl rfl) fun _ _ _ _ z => z) (pa_cons (pv 0) pa_nil)))
      (pss_cons (ps_set (i := 2) sc_parse_plan.nd rfl (Or.inl rfl) (pe_lst pa_nil))
      (pss_cons (ps_for (passes_of rfl) rfl (pi_tup (pe_glob (v := .ref T.a_HEAD) rfl T.g_HEAD rfl)) (pg_name (i := 3) sc_parse_plan.nd rfl (Or.inl rfl)) (pss_one (ps_expr (pe_bm PySem.F.plainAttrs_list PySem.F.slot_list_append PySem.F.type_list_append mt_append (pv 2) (pa_cons (pe_meth (pv 1) T_Parser.cl D_Parser_take_statement.m D_Parser_take_statement.G (hr.mono (by decide)) D_Parser_take_statement.b .nil (passes_call (takes_of rfl rfl rfl rfl) fun _ _ _ _ z => z) (pa_cons (pv 3) pa_nil)) pa_nil)))))
      (pss_cons (ps_while (passes_of rfl) (pt_cmpR op_notN (pe_meth0 (pv 1) T_Parser.cl D_Parser_ahead.m D_Parser_ahead.G (hr.mono (by decide)) D_Parser_ahead.b .nil pass0) pe_non (nomark _)) (pss_cons (ps_set (i := 3) sc_parse_plan.nd rfl (Or.inl rfl) (pe_meth0 (pv 1) T_Parser.cl D_Parser_ahead.m D_Parser_ahead.G (hr.mono (by decide)) D_Parser_ahead.b .nil pass0))
      (pss_cons (ps_if (PW.pt (pw_or (pt_cmpR op_in_seq (pv 3) (pe_glob (v := .ref T.a_HEAD) rfl T.g_HEAD rfl) (by rfl)) (pw_or1 (pt_cmpR (op_notIn_kd T.kd) (pv 3) (pe_glob (v := .ref T.a_FORMS) rfl T.g_FORMS rfl) (by rfl))))) (pss_one (ps_expr (pe_meth0 (pv 1) T_Parser.cl D_Parser_refuse.m D_Parser_refuse.G (hr.mono (by decide)) D_Parser_refuse.b .nil (passes_call (takes_of rfl rfl rfl rfl) fun _ _ _ _ z => z)))) pss_nil)
      (pss_one (ps_expr (pe_bm PySem.F.plainAttrs_list PySem.F.slot_list_append PySem.F.type_list_append mt_append (pv 2) (pa_cons (pe_meth (pv 1) T_Parser.cl D_Parser_take_statement.m D_Parser_take_statement.G (hr.mono (by decide)) D_Parser_take_statement.b .nil (passes_call (takes_of rfl rfl rfl rfl) fun _ _ _ _ z => z) (pa_cons (pv 3) pa_nil)) pa_nil)))))))
      (pss_one (ps_ret (pv 2))))))), ?_⟩
    walk_at "rd"
    intro p dx hp hdx hne
    refine ⟨p, dx, z, rfl, upd_same, hz, fun ts hts hle l as H2 s2 PA => ⟨rfl, Nat.zero_le _, fun q hq => ?_⟩, fun x y he => ?_⟩
    · have hparse : parse z = parseToks (rowsOf z).length ts := by
        unfold parse
        rw [hts]
      have sA : Same H (upd (upd H dx (.own p)) p (.ins CP dx [])) := same_mut (same_new hdx) hp
      have s3 : Same H H2 := fun b o hb => s2 b o (ne_of_none hb hp) (sA b o hb)
      have hq0 : H q = none := s3.free hq
      have hqp : q ≠ p := fun e => by
        rw [e, PA.ob] at hq
        cases hq
      have s4 : Same1 p H2 (upd H2 q (.lst [])) := Same1.of (same_new hq)
      have hql : q ≠ l := fun e => by
        rw [e, PA.ls] at hq
        cases hq
      refine ⟨T.a_HEAD, rfl, ⟨_, T.t_HEAD _⟩, ?_⟩
      refine for_it (walk_tup (xs := headL.map fun k => V.str (S k))) (IHd C CT CP z p dx l q as ts (rowsOf z).length H) ?_ (fun i σ H' _ _ => T.t_HEAD _) ?_ ?_
      · refine ⟨0, none, [], [], rfl, same_mut s3 hq0, PA.step s4 (by rw [upd_ne hqp.symm]; exact PA.ob), Nat.zero_le _, upd_same, Each.nil, Nat.zero_le _, ?_⟩
        rw [List.drop_zero]
        generalize parseHead (rowsOf z).length ts headL 0 = y
        cases y with
        | error e => rfl
        | ok w => rfl
      · rintro i x σ H3 H4 hi ⟨n, v, qs, ss, rfl, s5, PB, hn, hQ, hE, hss, e1⟩ ⟨rfl, ex⟩
        rw [List.length_map] at hi
        have ex' : x = V.str (S headL[i]) := by
          rw [List.getElem?_map, List.getElem?_eq_getElem hi] at ex
          exact (Option.some.inj ex).symm
        subst ex'
        rw [List.drop_eq_getElem_cons hi, parseHead] at e1
        have hfo : ∃ ps, forms headL[i] = some ps := by
          have : ∀ k ∈ headL, (forms k).isSome = true := by decide
          exact Option.isSome_iff_exists.mp (this _ (List.getElem_mem hi))
        obtain ⟨ps, hps⟩ := hfo
        walk_at "rd"
        refine ⟨tyV_lst hQ, ?_⟩
        simp only [PB.ob, V.ref.injEq, V.int.injEq, V.str.injEq, List.cons.injEq, Option.some.injEq, HO.ins.injEq, and_assoc, exists_and_left, exists_eq_left', exists_eq_left, true_and, and_true, upd_same, upd_upd, putF_nil, putF_cons, lookup_put, lookup_nil, if_false, if_true, List.length_cons, List.length_nil, exists_eq', exists_eq, Nat.reduceAdd, Nat.reduceLT, Nat.zero_add, n_tokens_lines, n_tokens_taken, n_lines_tokens, n_lines_taken, n_taken_tokens, n_taken_lines, n_ahead_tokens, n_ahead_lines, n_ahead_taken, n_refuse_tokens, n_refuse_lines, n_refuse_taken, n_take_tokens, n_take_lines, n_take_taken, n_take_names_tokens, n_take_names_lines, n_take_names_taken, n_take_statement_tokens, n_take_statement_lines, n_take_statement_taken]
        refine ⟨p, dx, l, as, ts, _, n, headL[i], ps, rfl, PB, hn, by omega, hps, forms_len hps, fun st m hst hm hnm u H5 hu s6 hP5 hS5 => ?_, fun x y he => ?_⟩
        · rw [hst] at e1
          dsimp only at e1
          have hqp3 : q ≠ p := ne_of hQ PB.ob (by intro z; cases z)
          have hq5 := s6 _ _ hqp3 hQ
          walk_at "rd"
          refine ⟨qs.map V.ref, hq5, line_lt (by rw [List.length_map, hE.1]; omega), ?_⟩
          obtain ⟨dq, k, ln, lm, ns, ms, W, f1, f2⟩ := hS5
          have hX : StmX C CT q H5 u st := ⟨dq, k, ln, lm, ns, ms, W, (fun e => by rw [e, hQ] at f1; cases f1), (fun e => by rw [e, hQ] at f2; cases f2)⟩
          have hE5 : Each (StmX C CT q H5) (qs ++ [u]) (ss ++ [st]) := (hE.imp fun a t h => h.step PB.ob s6).snoc hX
          have s7 : Same H (upd H5 q (.lst ((qs ++ [u]).map V.ref))) := same_mut (Same1.same s5 hp s6) hq0
          have P5 : ParAt C CP H5 p dx l as ts (rowsOf z).length m := PB.step s6 hP5
          refine ⟨m, _, qs ++ [u], ss ++ [st], rfl, by simpa using s7, by simpa using P5.lst (ys := (qs ++ [u]).map V.ref) hq5 hql, hm, by simp [upd_same], ?_, by simp; omega, ?_⟩
          · have := hE5.imp fun a t h => h.lst (ys := (qs ++ [u]).map V.ref) hq5
            simpa using this
          · rw [e1]
            generalize parseHead (rowsOf z).length ts (headL.drop (i + 1)) m = y
            cases y with
            | error e => rfl
            | ok w => simp
        · rw [he] at e1
          have : parse z = .error (x, y) := by
            rw [hparse, parseToks, e1]
          exact (kN x y this).to1 s5 hp
      · rintro σ H3 ⟨n, v, qs, ss, rfl, s5, PB, hn, hQ, hE, hss, e1⟩
        rw [List.length_map, List.drop_length, parseHead] at e1
        dsimp only at e1
        rw [List.append_nil] at e1
        walk_at "rd"
        have e2 : parseToks (rowsOf z).length ts = (match parseRest (rowsOf z).length ts (ts.length + 1) n with | .error e => .error e | .ok r => .ok (ss ++ r)) := by
          rw [parseToks, e1]
        refine ⟨IRs C CT CP z p dx l q as ts (rowsOf z).length H, ⟨ts.length + 1, n, v, qs, ss, rfl, s5, PB, hn, hQ, hE, hss, by omega, e2⟩, ?_⟩
        clear e1 e2 hn hQ hE hss
        rintro m σ H4 ⟨n, v, qs, ss, rfl, s5, PB, hn, hQ, hE, hss, hm, e1⟩
        walk_at "rd"
        simp only [PB.ob, V.ref.injEq, V.int.injEq, V.str.injEq, List.cons.injEq, Option.some.injEq, HO.ins.injEq, and_assoc, exists_and_left, exists_eq_left', exists_eq_left, true_and, and_true, upd_same, upd_upd, putF_nil, putF_cons, lookup_put, lookup_nil, if_false, if_true, List.length_cons, List.length_nil, exists_eq', exists_eq, Nat.reduceAdd, Nat.reduceLT, Nat.zero_add, n_tokens_lines, n_tokens_taken, n_lines_tokens, n_lines_taken, n_taken_tokens, n_taken_lines, n_ahead_tokens, n_ahead_lines, n_ahead_taken, n_refuse_tokens, n_refuse_lines, n_refuse_taken, n_take_tokens, n_take_lines, n_take_taken, n_take_names_tokens, n_take_names_lines, n_take_names_taken, n_take_statement_tokens, n_take_statement_lines, n_take_statement_taken]
        refine ⟨p, dx, l, as, ts, _, n, rfl, PB, hn, ?_⟩
        cases m with
        | zero => omega
        | succ m =>
        rw [parseRest] at e1
        unfold kindV
        cases et : ts[n]? with
        | none =>
          rw [et] at e1
          dsimp only at e1
          rw [List.append_nil] at e1
          walk_at "rd"
          rw [e1] at hparse
          exact kY ss hparse q H4 hq0 s5 ⟨qs, hQ, hE.imp fun _ _ h => h.at_⟩
        | some t =>
          rw [et] at e1
          dsimp only at e1
          walk_at "rd"
          refine ⟨_, fun _ _ z => z, ?_⟩
          simp only [PB.ob, V.ref.injEq, V.int.injEq, V.str.injEq, List.cons.injEq, Option.some.injEq, HO.ins.injEq, and_assoc, exists_and_left, exists_eq_left', exists_eq_left, true_and, and_true, upd_same, upd_upd, putF_nil, putF_cons, lookup_put, lookup_nil, if_false, if_true, List.length_cons, List.length_nil, exists_eq', exists_eq, Nat.reduceAdd, Nat.reduceLT, Nat.zero_add, n_tokens_lines, n_tokens_taken, n_lines_tokens, n_lines_taken, n_taken_tokens, n_taken_lines, n_ahead_tokens, n_ahead_lines, n_ahead_taken, n_refuse_tokens, n_refuse_lines, n_refuse_taken, n_take_tokens, n_take_lines, n_take_taken, n_take_names_tokens, n_take_names_lines, n_take_names_taken, n_take_statement_tokens, n_take_statement_lines, n_take_statement_taken]
          refine ⟨p, dx, l, as, ts, _, n, rfl, PB, hn, ?_⟩
          unfold kindV
          rw [et]
          dsimp only
          have hmem : t ∈ ts := List.mem_of_getElem? et
          have hlt := (List.getElem?_eq_some_iff.mp et).1
          have hfau : fault (rowsOf z).length ts n = (t.line, t.col) := by
            unfold fault
            rw [et]
          refine ⟨T.a_HEAD, _, rfl, .inr (T.t_HEAD _), rfl, flat_strs _, _, rfl, ?_⟩
          rw [inV_strs]
          simp only [Bool.false_eq_true, if_false, decide_eq_true_eq]
          by_cases h1 : t.kind ∈ headL
          · rw [if_pos h1]
            rw [if_pos (.inl h1)] at e1
            simp only [PB.ob, V.ref.injEq, V.int.injEq, V.str.injEq, List.cons.injEq, Option.some.injEq, HO.ins.injEq, and_assoc, exists_and_left, exists_eq_left', exists_eq_left, true_and, and_true, upd_same, upd_upd, putF_nil, putF_cons, lookup_put, lookup_nil, if_false, if_true, List.length_cons, List.length_nil, exists_eq', exists_eq, Nat.reduceAdd, Nat.reduceLT, Nat.zero_add, n_tokens_lines, n_tokens_taken, n_lines_tokens, n_lines_taken, n_taken_tokens, n_taken_lines, n_ahead_tokens, n_ahead_lines, n_ahead_taken, n_refuse_tokens, n_refuse_lines, n_refuse_taken, n_take_tokens, n_take_lines, n_take_taken, n_take_names_tokens, n_take_names_lines, n_take_names_taken, n_take_statement_tokens, n_take_statement_lines, n_take_statement_taken]
            refine ⟨p, dx, l, as, ts, _, n, rfl, PB, hn, ?_⟩
            exact (kN _ _ (by rw [hparse, e1])).mono s5
          · rw [if_neg h1]
            cases hf : forms t.kind with
            | none =>
              rw [if_pos (.inr hf)] at e1
              refine ⟨_, rfl, _, T.f_miss _ (PB.bt t hmem).2.2 hf, ?_⟩
              simp only [Option.isSome_none, if_true, PB.ob, V.ref.injEq, V.int.injEq, V.str.injEq, List.cons.injEq, Option.some.injEq, HO.ins.injEq, and_assoc, exists_and_left, exists_eq_left', exists_eq_left, true_and, and_true, upd_same, upd_upd, putF_nil, putF_cons, lookup_put, lookup_nil, if_false, if_true, List.length_cons, List.length_nil, exists_eq', exists_eq, Nat.reduceAdd, Nat.reduceLT, Nat.zero_add, n_tokens_lines, n_tokens_taken, n_lines_tokens, n_lines_taken, n_taken_tokens, n_taken_lines, n_ahead_tokens, n_ahead_lines, n_ahead_taken, n_refuse_tokens, n_refuse_lines, n_refuse_taken, n_take_tokens, n_take_lines, n_take_taken, n_take_names_tokens, n_take_names_lines, n_take_names_taken, n_take_statement_tokens, n_take_statement_lines, n_take_statement_taken]
              refine ⟨p, dx, l, as, ts, _, n, rfl, PB, hn, ?_⟩
              exact (kN _ _ (by rw [hparse, e1])).mono s5
            | some ps =>
              rw [if_neg (by simp [h1, hf])] at e1
              obtain ⟨fa, hfa, _⟩ := T.f_get _ _ hf
              refine ⟨_, rfl, _, hfa, ?_⟩
              simp only [Option.isSome_some, Bool.true_eq_false, if_false]
              refine ⟨tyV_lst hQ, ?_⟩
              simp only [PB.ob, V.ref.injEq, V.int.injEq, V.str.injEq, List.cons.injEq, Option.some.injEq, HO.ins.injEq, and_assoc, exists_and_left, exists_eq_left', exists_eq_left, true_and, and_true, upd_same, upd_upd, putF_nil, putF_cons, lookup_put, lookup_nil, if_false, if_true, List.length_cons, List.length_nil, exists_eq', exists_eq, Nat.reduceAdd, Nat.reduceLT, Nat.zero_add, n_tokens_lines, n_tokens_taken, n_lines_tokens, n_lines_taken, n_taken_tokens, n_taken_lines, n_ahead_tokens, n_ahead_lines, n_ahead_taken, n_refuse_tokens, n_refuse_lines, n_refuse_taken, n_take_tokens, n_take_lines, n_take_taken, n_take_names_tokens, n_take_names_lines, n_take_names_taken, n_take_statement_tokens, n_take_statement_lines, n_take_statement_taken]
              refine ⟨p, dx, l, as, ts, _, n, t.kind, ps, rfl, PB, hn, by omega, hf, forms_len hf, fun st m2 hst hm2 hnm u H5 hu s6 hP5 hS5 => ?_, fun x y he => ?_⟩
              · rw [hst] at e1
                dsimp only at e1
                have hqp3 : q ≠ p := ne_of hQ PB.ob (by intro z; cases z)
                have hq5 := s6 _ _ hqp3 hQ
                walk_at "rd"
                refine ⟨qs.map V.ref, hq5, line_lt (by rw [List.length_map, hE.1]; omega), ?_⟩
                obtain ⟨dq, k, ln, lm, ns, ms, W, f1, f2⟩ := hS5
                have hX : StmX C CT q H5 u st := ⟨dq, k, ln, lm, ns, ms, W, (fun e => by rw [e, hQ] at f1; cases f1), (fun e => by rw [e, hQ] at f2; cases f2)⟩
                have hE5 : Each (StmX C CT q H5) (qs ++ [u]) (ss ++ [st]) := (hE.imp fun a t h => h.step PB.ob s6).snoc hX
                have s7 : Same H (upd H5 q (.lst ((qs ++ [u]).map V.ref))) := same_mut (Same1.same s5 hp s6) hq0
                have P5 : ParAt C CP H5 p dx l as ts (rowsOf z).length m2 := PB.step s6 hP5
                refine ⟨m, Nat.lt_succ_self _, m2, _, qs ++ [u], ss ++ [st], rfl, by simpa using s7, by simpa using P5.lst (ys := (qs ++ [u]).map V.ref) hq5 hql, hm2, by simp [upd_same], ?_, by simp; omega, by omega, ?_⟩
                · have := hE5.imp fun a t h => h.lst (ys := (qs ++ [u]).map V.ref) hq5
                  simpa using this
                · rw [e1]
                  generalize parseRest (rowsOf z).length ts m m2 = y
                  cases y with
                  | error e => rfl
                  | ok w => simp
              · rw [he] at e1
                have : parse z = .error (x, y) := by rw [hparse, e1]
                exact (kN x y this).to1 s5 hp
    · have : parse z = .error (x, y) := by
        unfold parse
        rw [he]
      exact (kN x y this).mono (same_mut (same_new hdx) hp)
end

end Wv
end WvP4_
section WvC1_
set_option Elab.async false
set_option linter.all false
set_option maxRecDepth 100000
set_option maxHeartbeats 4000000
namespace Wv
open PySem L2
open SX (S S_len S_inj)
local macro_rules | `(tactic| walk_at "rd") => `(tactic| (try simp only [tVar, tC, tB, tAnd, tOr, tNot, tAndV, tOrV, tNotV, tIf, tNext, tSeq, tBreak, tCont, tDrop, tRet, tRetN, tIfS, gName, gNil, gCons, gTup, gSub, tAsg, tPar, tAug, tOp, tUn, rI, rI0, rU, rEq, rNe, tTest, tFld, tNil, tCons, tTup, tLst, tCB, tNoPart, tPart, tSl, rIxL, rIxT, rIxS, rSlL, rSlS, tBM0, tBM, rAppend, rExtend, rCat, rRep, rSetL, tM0, tM1, tCall, tMeth, tMake, sFld, sFldAug, rAdd, rSub, ipI, tBM0,
  scal_ss, scal_ii, scal_bb, scal_ns, scal_sn, scal_nn, tyV_str, L2.start, List.map_cons, List.map_nil, List.length_cons, List.length_nil, List.replicate, List.cons_append, List.nil_append, List.append_nil, List.getElem?_cons_zero, List.getElem?_cons_succ, List.set_cons_zero, List.set_cons_succ, Nat.reduceAdd, Nat.reduceSub, Nat.zero_add, Nat.sub_self, Nat.add_one_sub_one,
  Option.some.injEq, exists_eq_left, exists_eq_left', exists_eq', exists_eq, V.int.injEq, V.str.injEq, V.ref.injEq, V.bl.injEq, reduceCtorEq, List.cons.injEq, and_true, true_and, exists_and_left, exists_and_right, and_assoc, decide_true, decide_false, if_true, if_false, ite_true, ite_false, Bool.false_eq_true, Bool.true_eq_false, eq_self_iff_true, cx_K, nox_K, tMkSyn, tMkChk, tYes, bne, ne_eq, not_false_eq_true, not_true_eq_false, Bool.not_true, Bool.not_false, decide_eq_true_eq, Bool.not_eq_true', decide_eq_false_iff_not]))
def roundK : List Nat := [114, 111, 117, 110, 100]
def openK : List Nat := [111, 112, 101, 110]
def valvesK : List Nat := [118, 97, 108, 118, 101, 115]
def startK : List Nat := [115, 116, 97, 114, 116]
def pauseK : List Nat := [112, 97, 117, 115, 101]
def rankK : List Nat := [114, 97, 110, 107]
def duplicateR : List Nat := [100, 117, 112, 108, 105, 99, 97, 116, 101]
def unknownR : List Nat := [117, 110, 107, 110, 111, 119, 110]
def tickR : List Nat := [116, 105, 99, 107]
def lengthR : List Nat := [108, 101, 110, 103, 116, 104]
def startsR : List Nat := [115, 116, 97, 114, 116, 115]
def twiceR : List Nat := [116, 119, 105, 99, 101]
theorem str_round : ("round" : Str) = S roundK := by decide +kernel
theorem str_open : ("open" : Str) = S openK := by decide +kernel
theorem str_valves : ("valves" : Str) = S valvesK := by decide +kernel
theorem str_start : ("start" : Str) = S startK := by decide +kernel
theorem str_pause : ("pause" : Str) = S pauseK := by decide +kernel
theorem str_rank : ("rank" : Str) = S rankK := by decide +kernel
theorem str_duplicate : ("duplicate" : Str) = S duplicateR := by decide +kernel
theorem str_unknown : ("unknown" : Str) = S unknownR := by decide +kernel
theorem str_tick : ("tick" : Str) = S tickR := by decide +kernel
theorem str_length : ("length" : Str) = S lengthR := by decide +kernel
theorem str_starts : ("starts" : Str) = S startsR := by decide +kernel
theorem str_twice : ("twice" : Str) = S twiceR := by decide +kernel

/-! ### what is known of the tokens of a text -/
def NumTok (t : WTok) : Prop := t.text.all (fun c => decide (48 ≤ c) && decide (c ≤ 57)) = true ∧ t.text ≠ [] ∧ t.text.length ≤ 2
def num (t : WTok) : Nat := NumText.digitsVal t.text
structure TokOk (t : WTok) : Prop where
  b : BTok t
  nu : t.kind = numberK → NumTok t
  ke : t.kind ∈ keywords → t.text = t.kind
  sh : t.text.length ≤ 8
theorem int_num {t : WTok} (h : NumTok t) : intText? (S t.text) = some ((num t : Nat) : Int) := SX.int_S h.1 h.2.1 (by have := h.2.2; omega)
structure GoodStm (s : WStm) : Prop where
  nm : ∀ t ∈ s.names, TokOk t ∧ t.kind = nameK
  nu : ∀ t ∈ s.numbers, TokOk t ∧ t.kind = numberK
  ke : TokOk s.key
  kt : s.key.text ∈ keywords
  l1 : s.key.text = roundK ∨ s.key.text = openK → s.numbers.length = 1
  l2 : s.key.text = startK → s.names.length = 1 ∧ s.numbers.length = 2
  l3 : s.key.text = pauseK → s.numbers.length = 2
/-! ### the checks' mirror -/
structure Chk where
  period : Nat
  names : List (List Nat)
  starts : Nat
  ranks : Nat
abbrev CErr := List Nat × Nat × Nat
def err (r : List Nat) (t : WTok) : CErr := (r, t.line, t.col)
def limited (t : WTok) (lo hi : Int) (r : List Nat) : Except CErr Nat := if ((num t : Nat) : Int) < lo ∨ hi < ((num t : Nat) : Int) then .error (err r t) else .ok (num t)
def known (ns : List (List Nat)) (t : WTok) : Except CErr Unit := if t.text ∈ ns then .ok () else .error (err unknownR t)
def valvesC : List WTok → List (List Nat) → Except CErr (List (List Nat))
  | [], ns => .ok ns
  | t :: r, ns => if t.text ∈ ns then .error (err duplicateR t) else if ns.length = 8 then .error (err valvesK t) else valvesC r (ns ++ [t.text])
def rankC (ns : List (List Nat)) : List WTok → List (List Nat) → Except CErr (List (List Nat))
  | [], seen => .ok seen
  | t :: r, seen => match known ns t with
    | .error e => .error e
    | .ok _ => if t.text ∈ seen then .error (err rankK t) else rankC ns r (seen ++ [t.text])
def startC (k : Chk) (s : WStm) : Except CErr Chk := if 20 < k.starts + 1 then .error (err startsR s.key) else match s.names, s.numbers with
  | [a], [t, u] => match known k.names a with
    | .error e => .error e
    | .ok _ => match limited t 0 ((k.period : Nat) - 1 : Int) tickR with
      | .error e => .error e
      | .ok _ => match limited u 1 30 lengthR with
        | .error e => .error e
        | .ok _ => .ok ⟨k.period, k.names, k.starts + 1, k.ranks⟩
  | _, _ => .ok k
def pauseC (k : Chk) (s : WStm) : Except CErr Chk := match s.numbers with
  | [a, b] => match limited b 0 ((k.period : Nat) - 1 : Int) pauseK with
    | .error e => .error e
    | .ok v => match limited a 0 (v : Nat) pauseK with
      | .error e => .error e
      | .ok _ => .ok k
  | _ => .ok k
def rankS (k : Chk) (s : WStm) : Except CErr Chk := if 1 < k.ranks + 1 then .error (err twiceR s.key) else match rankC k.names s.names [] with
  | .error e => .error e
  | .ok _ => .ok ⟨k.period, k.names, k.starts, k.ranks + 1⟩
def checkC (k : Chk) (s : WStm) : Except CErr Chk :=
  if s.key.text = roundK then (match s.numbers with
    | [t] => match limited t 1 60 roundK with | .error e => .error e | .ok v => .ok ⟨v, k.names, k.starts, k.ranks⟩
    | _ => .ok k)
  else if s.key.text = openK then (match s.numbers with
    | [t] => match limited t 1 9 openK with | .error e => .error e | .ok _ => .ok k
    | _ => .ok k)
  else if s.key.text = valvesK then (match valvesC s.names k.names with | .error e => .error e | .ok ns => .ok ⟨k.period, ns, k.starts, k.ranks⟩)
  else if s.key.text = startK then startC k s
  else if s.key.text = pauseK then pauseC k s
  else rankS k s
def checkAll : Chk → List WStm → Except CErr Chk
  | k, [] => .ok k
  | k, s :: r => match checkC k s with | .error e => .error e | .ok k2 => checkAll k2 r
/-! ### how a Checker lies in the heap -/
def Same2 (c l : Addr) (H H' : Hp) : Prop := ∀ b o, b ≠ c → b ≠ l → H b = some o → H' b = some o
theorem Same2.refl {c l : Addr} (H : Hp) : Same2 c l H H := fun _ _ _ _ h => h
theorem Same2.trans {c l : Addr} {H H1 H2 : Hp} (a : Same2 c l H H1) (b : Same2 c l H1 H2) : Same2 c l H H2 := fun x o n m h => b x o n m (a x o n m h)
theorem Same2.upd1 {c l : Addr} {H H' : Hp} {o : HO} (a : Same2 c l H H') : Same2 c l H (upd H' c o) := fun x u n m h => by
  rw [upd_ne n]
  exact a x u n m h
theorem Same2.upd2 {c l : Addr} {H H' : Hp} {o : HO} (a : Same2 c l H H') : Same2 c l H (upd H' l o) := fun x u n m h => by
  rw [upd_ne m]
  exact a x u n m h
theorem Same2.of {c l : Addr} {H H' : Hp} (a : Same H H') : Same2 c l H H' := fun x u _ _ h => a x u h
theorem Same2.same {c l : Addr} {H0 H H' : Hp} (e : Same H0 H) (h : H0 c = none) (h2 : H0 l = none) (a : Same2 c l H H') : Same H0 H' := fun x u hc => a x u (ne_of_none hc h) (ne_of_none hc h2) (e x u hc)
structure CheckAt (CK : Addr) (H : Hp) (c dx l : Addr) (k : Chk) : Prop where
  ob : H c = some (.ins CK dx [("period", .int (k.period : Nat)), ("names", .ref l), ("starts", .int (k.starts : Nat)), ("ranks", .int (k.ranks : Nat))])
  nm : H l = some (.lst (k.names.map fun n => V.str (S n)))
def EChk2 (CC c l : Addr) (H : Hp) (E : XK) (r : List Nat) (x y : Nat) : Prop := ∀ d fs H', H d = none → Same2 c l H H' → H' d = some (.xd fs) → fs.lookup ("reason" : Str) = some (.str (S r)) → fs.lookup ("line" : Str) = some (.int (x : Nat)) → fs.lookup ("column" : Str) = some (.int (y : Nat)) → E (.ref CC) (some d) H'
theorem EChk2.to {CC c l : Addr} {H H' : Hp} {E : XK} {r : List Nat} {x y : Nat} (h : EChk2 CC c l H E r x y) (e : Same2 c l H H') (hc : ∃ o, H' c = some o) (hl : ∃ o, H' l = some o) : EChk CC H' E r x y := fun d fs H2 hd s1 => by
  refine h d fs H2 ?_ (e.trans (Same2.of s1))
  cases q : H d with
  | none => rfl
  | some o =>
    by_cases z : d = c
    · obtain ⟨o2, h2⟩ := hc
      rw [z, h2] at hd
      cases hd
    · by_cases z2 : d = l
      · obtain ⟨o2, h2⟩ := hl
        rw [z2, h2] at hd
        cases hd
      · rw [e d o z z2 q] at hd
        cases hd
theorem EChk2.mono {CC c l : Addr} {H H' : Hp} {E : XK} {r : List Nat} {x y : Nat} (h : EChk2 CC c l H E r x y) (e : Same2 c l H H') (hc : ∃ o, H' c = some o) (hl : ∃ o, H' l = some o) : EChk2 CC c l H' E r x y := fun d fs H2 hd s1 => by
  refine h d fs H2 ?_ (e.trans s1)
  cases q : H d with
  | none => rfl
  | some o =>
    by_cases z : d = c
    · obtain ⟨o2, h2⟩ := hc
      rw [z, h2] at hd
      cases hd
    · by_cases z2 : d = l
      · obtain ⟨o2, h2⟩ := hl
        rw [z2, h2] at hd
        cases hd
      · rw [e d o z z2 q] at hd
        cases hd
theorem chk_tok_ne {C CK : Addr} {H : Hp} {c dx l : Addr} {k : Chk} {a : Addr} {t : WTok} (h : CheckAt CK H c dx l k) (ht : TokAt C H a t) : a ≠ c ∧ a ≠ l := by
  obtain ⟨dy, hy⟩ := ht
  refine ⟨ne_of hy h.ob ?_, ne_of hy h.nm (by intro z; cases z)⟩
  intro z
  injection z with e1 e2 e3
  injection e3 with e4 e5
  injection e4 with e6 e7
  exact absurd e6 (by decide +kernel)
theorem chk_tok {C CK : Addr} {H H' : Hp} {c dx l : Addr} {k : Chk} {a : Addr} {t : WTok} (h : CheckAt CK H c dx l k) (e : Same2 c l H H') (ht : TokAt C H a t) : TokAt C H' a t := by
  obtain ⟨n1, n2⟩ := chk_tok_ne h ht
  obtain ⟨dy, hy⟩ := ht
  exact ⟨dy, e _ _ n1 n2 hy⟩
theorem chk_stm_ne {CT CK : Addr} {H : Hp} {c dx l : Addr} {k : Chk} {a dq : Addr} {v1 v2 v3 : V} (h : CheckAt CK H c dx l k) (hy : H a = some (.ins CT dq [("keyword", v1), ("names", v2), ("numbers", v3)])) : a ≠ c ∧ a ≠ l := by
  refine ⟨ne_of hy h.ob ?_, ne_of hy h.nm (by intro z; cases z)⟩
  intro z
  injection z with e1 e2 e3
  injection e3 with e4 e5
  injection e4 with e6 e7
  exact absurd e6 (by decide +kernel)
theorem chk_stm {C CT CK : Addr} {H H' : Hp} {c dx l : Addr} {k : Chk} {a : Addr} {s : WStm} (h : CheckAt CK H c dx l k) (e : Same2 c l H H') (hs : StmX C CT l H a s) : StmX C CT l H' a s := by
  obtain ⟨dq, kk, ln, lm, ns, ms, W, h1, h2⟩ := hs
  obtain ⟨n1, n2⟩ := chk_stm_ne h W.ob
  exact ⟨dq, kk, ln, lm, ns, ms, ⟨e _ _ n1 n2 W.ob, chk_tok h e W.ke, e _ _ (ne_of W.nl h.ob (by intro z; cases z)) h1 W.nl, W.ne.imp fun _ _ q => chk_tok h e q, e _ _ (ne_of W.ml h.ob (by intro z; cases z)) h2 W.ml, W.me.imp fun _ _ q => chk_tok h e q, W.d⟩, h1, h2⟩
section
variable {P : Program} {w : World} {K : PySem.W.Frag} {mg : Str → Option Value} {base : Heap}
theorem sc__limited : FnScope ["token", "low", "high", "reason", "number"] ["token", "low", "high", "reason"] (defScope s__limited) := ⟨rfl, rfl, rfl, by decide +kernel, rfl, by decide +kernel, by decide +kernel⟩
def sp__limited (C CC : Addr) : Sp := fun vs H Q E => ∃ (a : Addr) (t : WTok) (lo hi : Int) (r : List Nat), vs = [.ref a, .int lo, .int hi, .str (S r)] ∧ TokAt C H a t ∧ NumTok t ∧ BTok t ∧ r.length ≤ 100 ∧
  (∀ v, limited t lo hi r = .ok v → Q (.int (v : Nat)) H) ∧ (∀ r2 x y, limited t lo hi r = .error (r2, x, y) → EChk CC H E r2 x y)
theorem ok__limited {f C CS CC : Addr} {fd : FuncData} (F : Fun K "_limited" "_limited" s__limited f fd) (T : TopF w K mg) (TE : TErr P w K mg base CS CC) (TK : CToken K C) : FnOk P w K mg base (L2.CX P w) 6 f fd ["token", "low", "high", "reason"] (sp__limited C CC) := by
  refine F.okX sc__limited (fun vs H Q E h => ?_) (fun cdv A outer s H vs Q E hr h => ?_)
  · obtain ⟨a, t, lo, hi, r, rfl, _⟩ := h
    rfl
  · obtain ⟨a, t, lo, hi, r, rfl, hT, hN, hB, hrl, kY, kN⟩ := h
    refine ⟨_, (pss_cons (ps_set (i := 4) sc__limited.nd rfl (Or.inl rfl) (pe_callTy call_int_str (by rfl) T.z_int (by decide +kernel) (pa_cons (pe_fld (pv 0) rfl) pa_nil)))
      (pss_cons (ps_if (PW.pt (pw_or (pt_cmpR op_lt (pv 4) (pv 1) (nomark _)) (pw_or1 (pt_cmpR op_gt (pv 4) (pv 2) (nomark _))))) (pss_one (ps_raise rfl (takes_of rfl rfl rfl rfl) (pmk_chk TE (hr.mono (by decide)) (pa_cons (pv 3) (pa_cons (pe_fld (pv 0) rfl) (pa_cons (pe_fld (pv 0) rfl) pa_nil)))))) pss_nil)
      (pss_one (ps_ret (pv 4))))), ?_⟩
    obtain ⟨dy, hy⟩ := hT
    walk_at "rd"
    simp only [hy, TK.cl, TK.n1, TK.n2, TK.n3, TK.n4, V.ref.injEq, V.int.injEq, V.str.injEq, List.cons.injEq, Option.some.injEq, HO.ins.injEq, and_assoc, exists_and_left, exists_eq_left', exists_eq_left, true_and, and_true, upd_same, upd_upd, putF_nil, putF_cons, lookup_put, lookup_nil, if_false, if_true, List.length_cons, List.length_nil, exists_eq', exists_eq, Nat.reduceAdd, Nat.reduceLT, Nat.zero_add, n_kind_text, n_kind_line, n_kind_column, n_text_kind, n_text_line, n_text_column, n_line_kind, n_line_text, n_line_column, n_column_kind, n_column_text, n_column_line]
    refine ⟨_, int_num hN, by rw [S_len]; have := hN.2.2; omega, ?_⟩
    unfold limited at kY kN
    walk_at "rd"
    have hb1 := hB.1
    have hb2 := hB.2.1
    by_cases h1 : ((num t : Nat) : Int) < lo
    · rw [if_pos h1]
      exact ⟨r, rfl, _, rfl, _, rfl, hrl, by omega, by omega, kN _ _ _ (if_pos (Or.inl h1))⟩
    · rw [if_neg h1]
      by_cases h2 : hi < ((num t : Nat) : Int)
      · rw [if_pos h2]
        exact ⟨r, rfl, _, rfl, _, rfl, hrl, by omega, by omega, kN _ _ _ (if_pos (Or.inr h2))⟩
      · rw [if_neg h2]
        exact kY _ (if_neg (by omega))
theorem sc_Checker___init__ : FnScope ["self"] ["self"] (defScope s_Checker___init__) := ⟨rfl, rfl, rfl, by decide +kernel, rfl, by decide +kernel, by decide +kernel⟩
def sp_Checker___init__ (CK : Addr) : Sp := fun vs H Q _ => ∃ (p dx : Addr), vs = [.ref p] ∧ H p = some (.ins CK dx []) ∧ ∀ l H', H l = none → Same1 p H H' → CheckAt CK H' p dx l ⟨0, [], 0, 0⟩ → Q .non H'
theorem ok_Checker___init__ {f CK : Addr} {fd : FuncData} (F : Fun K "__init__" "Checker.__init__" s_Checker___init__ f fd) (T : CChecker K CK) : FnOk P w K mg base CX0 1 f fd ["self"] (sp_Checker___init__ CK) := by
  refine F.ok sc_Checker___init__ (fun vs H Q E h => ?_) (fun cdv A outer s H vs Q E hr h => ?_)
  · obtain ⟨p, dx, rfl, _⟩ := h
    rfl
  · obtain ⟨p, dx, rfl, hp, k⟩ := h
    refine ⟨_, (pss_cons (ps_fld (pv 0) pe_int rfl)
      (pss_cons (ps_fld (pv 0) (pe_lst pa_nil) rfl)
      (pss_cons (ps_fld (pv 0) pe_int rfl)
      (pss_one (ps_fld (pv 0) pe_int rfl))))), ?_⟩
    walk_at "rd"
    simp only [hp, T.cl, T.n1, T.n2, T.n3, T.n4, V.ref.injEq, V.int.injEq, V.str.injEq, List.cons.injEq, Option.some.injEq, HO.ins.injEq, and_assoc, exists_and_left, exists_eq_left', exists_eq_left, true_and, and_true, upd_same, upd_upd, putF_nil, putF_cons, lookup_put, lookup_nil, if_false, if_true, List.length_cons, List.length_nil, exists_eq', exists_eq, Nat.reduceAdd, Nat.reduceLT, Nat.zero_add, n_period_names, n_period_starts, n_period_ranks, n_names_period, n_names_starts, n_names_ranks, n_starts_period, n_starts_names, n_starts_ranks, n_ranks_period, n_ranks_names, n_ranks_starts, n_check_period, n_check_names, n_check_starts, n_check_ranks, n_check_valves_period, n_check_valves_names, n_check_valves_starts, n_check_valves_ranks, n_check_start_period, n_check_start_names, n_check_start_starts, n_check_start_ranks, n_check_pause_period, n_check_pause_names, n_check_pause_starts, n_check_pause_ranks, n_check_rank_period, n_check_rank_names, n_check_rank_starts, n_check_rank_ranks, n_check_known_period, n_check_known_names, n_check_known_starts, n_check_known_ranks]
    refine ⟨Nat.zero_le _, fun l hl => ?_⟩
    have hlp : l ≠ p := fun e => by
      rw [e, upd_same] at hl
      cases hl
    have hl0 : H l = none := by
      rw [upd_ne hlp] at hl
      exact hl
    rw [upd_ne hlp.symm]
    simp only [T.cl, T.n1, T.n2, T.n3, T.n4, V.ref.injEq, V.int.injEq, V.str.injEq, List.cons.injEq, Option.some.injEq, HO.ins.injEq, and_assoc, exists_and_left, exists_eq_left', exists_eq_left, true_and, and_true, upd_same, upd_upd, putF_nil, putF_cons, lookup_put, lookup_nil, if_false, if_true, List.length_cons, List.length_nil, exists_eq', exists_eq, Nat.reduceAdd, Nat.reduceLT, Nat.zero_add, n_period_names, n_period_starts, n_period_ranks, n_names_period, n_names_starts, n_names_ranks, n_starts_period, n_starts_names, n_starts_ranks, n_ranks_period, n_ranks_names, n_ranks_starts, n_check_period, n_check_names, n_check_starts, n_check_ranks, n_check_valves_period, n_check_valves_names, n_check_valves_starts, n_check_valves_ranks, n_check_start_period, n_check_start_names, n_check_start_starts, n_check_start_ranks, n_check_pause_period, n_check_pause_names, n_check_pause_starts, n_check_pause_ranks, n_check_rank_period, n_check_rank_names, n_check_rank_starts, n_check_rank_ranks, n_check_known_period, n_check_known_names, n_check_known_starts, n_check_known_ranks]
    refine k l _ hl0 (fun b o hb e => ?_) ⟨upd_same, ?_⟩
    · rw [upd_ne hb, upd_ne (ne_of_none e hl0), upd_ne hb]
      exact e
    · rw [upd_ne hlp, upd_same]
      rfl
theorem sc_Checker_check_known : FnScope ["self", "token"] ["self", "token"] (defScope s_Checker_check_known) := ⟨rfl, rfl, rfl, by decide +kernel, rfl, by decide +kernel, by decide +kernel⟩
def sp_Checker_check_known (C CK CC : Addr) : Sp := fun vs H Q E => ∃ (c dx l a : Addr) (k : Chk) (t : WTok), vs = [.ref c, .ref a] ∧ CheckAt CK H c dx l k ∧ TokAt C H a t ∧ BTok t ∧ (known k.names t = .ok () → Q .non H) ∧ (∀ r x y, known k.names t = .error (r, x, y) → EChk CC H E r x y)
theorem ok_Checker_check_known {f C CK CS CC : Addr} {fd : FuncData} (F : Fun K "check_known" "Checker.check_known" s_Checker_check_known f fd) (TE : TErr P w K mg base CS CC) (TK : CToken K C) (T_Checker : CChecker K CK) : FnOk P w K mg base (L2.CX P w) 6 f fd ["self", "token"] (sp_Checker_check_known C CK CC) := by
  refine F.okX sc_Checker_check_known (fun vs H Q E h => ?_) (fun cdv A outer s H vs Q E hr h => ?_)
  · obtain ⟨c, dx, l, a, k, t, rfl, _⟩ := h
    rfl
  · obtain ⟨c, dx, l, a, k, t, rfl, hC, hT, hB, kY, kN⟩ := h
    refine ⟨_, (pss_one (ps_if (pt_cmpR op_notIn_seq (pe_fld (pv 1) rfl) (pe_fld (pv 0) rfl) (by rfl)) (pss_one (ps_raise rfl (takes_of rfl rfl rfl rfl) (pmk_chk TE (hr.mono (by decide)) (pa_cons pe_str (pa_cons (pe_fld (pv 1) rfl) (pa_cons (pe_fld (pv 1) rfl) pa_nil)))))) pss_nil)), ?_⟩
    obtain ⟨dy, hy⟩ := hT
    walk_at "rd"
    simp only [hy, hC.ob, TK.cl, TK.n1, TK.n2, TK.n3, TK.n4, T_Checker.cl, T_Checker.n2, V.ref.injEq, V.int.injEq, V.str.injEq, List.cons.injEq, Option.some.injEq, HO.ins.injEq, and_assoc, exists_and_left, exists_eq_left', exists_eq_left, true_and, and_true, upd_same, upd_upd, putF_nil, putF_cons, lookup_put, lookup_nil, if_false, if_true, List.length_cons, List.length_nil, exists_eq', exists_eq, Nat.reduceAdd, Nat.reduceLT, Nat.zero_add, n_kind_text, n_kind_line, n_kind_column, n_text_kind, n_text_line, n_text_column, n_line_kind, n_line_text, n_line_column, n_column_kind, n_column_text, n_column_line, n_period_names, n_period_starts, n_period_ranks, n_names_period, n_names_starts, n_names_ranks, n_starts_period, n_starts_names, n_starts_ranks, n_ranks_period, n_ranks_names, n_ranks_starts, n_check_period, n_check_names, n_check_starts, n_check_ranks, n_check_valves_period, n_check_valves_names, n_check_valves_starts, n_check_valves_ranks, n_check_start_period, n_check_start_names, n_check_start_starts, n_check_start_ranks, n_check_pause_period, n_check_pause_names, n_check_pause_starts, n_check_pause_ranks, n_check_rank_period, n_check_rank_names, n_check_rank_starts, n_check_rank_ranks, n_check_known_period, n_check_known_names, n_check_known_starts, n_check_known_ranks]
    refine ⟨l, _, rfl, .inl (SqL.of hC.nm), rfl, flat_strs _, _, rfl, ?_⟩
    rw [inV_strs]
    simp only [if_true, Bool.not_eq_true', decide_eq_false_iff_not]
    unfold known at kY kN
    have hb1 := hB.1
    have hb2 := hB.2.1
    by_cases h : t.text ∈ k.names
    · rw [if_neg (by simp [h])]
      exact kY (if_pos h)
    · rw [if_pos h]
      simp only [hy, TK.cl, TK.n1, TK.n2, TK.n3, TK.n4, V.ref.injEq, V.int.injEq, V.str.injEq, List.cons.injEq, Option.some.injEq, HO.ins.injEq, and_assoc, exists_and_left, exists_eq_left', exists_eq_left, true_and, and_true, upd_same, upd_upd, putF_nil, putF_cons, lookup_put, lookup_nil, if_false, if_true, List.length_cons, List.length_nil, exists_eq', exists_eq, Nat.reduceAdd, Nat.reduceLT, Nat.zero_add, n_kind_text, n_kind_line, n_kind_column, n_text_kind, n_text_line, n_text_column, n_line_kind, n_line_text, n_line_column, n_column_kind, n_column_text, n_column_line]
      exact ⟨unknownR, by rw [str_unknown], _, rfl, _, rfl, by decide, by omega, by omega, kN _ _ _ (if_neg h)⟩
end

end Wv
end WvC1_
section WvC2_
set_option Elab.async false
set_option linter.all false
set_option maxRecDepth 100000
set_option maxHeartbeats 4000000
namespace Wv
open PySem L2
open SX (S S_len S_inj)
local macro_rules | `(tactic| walk_at "rd") => `(tactic| (try simp only [tVar, tC, tB, tAnd, tOr, tNot, tAndV, tOrV, tNotV, tIf, tNext, tSeq, tBreak, tCont, tDrop, tRet, tRetN, tIfS, gName, gNil, gCons, gTup, gSub, tAsg, tPar, tAug, tOp, tUn, rI, rI0, rU, rEq, rNe, tTest, tFld, tNil, tCons, tTup, tLst, tCB, tNoPart, tPart, tSl, rIxL, rIxT, rIxS, rSlL, rSlS, tBM0, tBM, rAppend, rExtend, rCat, rRep, rSetL, tM0, tM1, tCall, tMeth, tMake, sFld, sFldAug, rAdd, rSub, ipI, tBM0,
  scal_ss, scal_ii, scal_bb, scal_ns, scal_sn, scal_nn, tyV_str, L2.start, List.map_cons, List.map_nil, List.length_cons, List.length_nil, List.replicate, List.cons_append, List.nil_append, List.append_nil, List.getElem?_cons_zero, List.getElem?_cons_succ, List.set_cons_zero, List.set_cons_succ, Nat.reduceAdd, Nat.reduceSub, Nat.zero_add, Nat.sub_self, Nat.add_one_sub_one,
  Option.some.injEq, exists_eq_left, exists_eq_left', exists_eq', exists_eq, V.int.injEq, V.str.injEq, V.ref.injEq, V.bl.injEq, reduceCtorEq, List.cons.injEq, and_true, true_and, exists_and_left, exists_and_right, and_assoc, decide_true, decide_false, if_true, if_false, ite_true, ite_false, Bool.false_eq_true, Bool.true_eq_false, eq_self_iff_true, cx_K, nox_K, tMkSyn, tMkChk, tYes, bne, ne_eq, not_false_eq_true, not_true_eq_false, Bool.not_true, Bool.not_false, decide_eq_true_eq, Bool.not_eq_true', decide_eq_false_iff_not]))
theorem Each.get {α : Type} {R : Addr → α → Prop} {as : List Addr} {ts : List α} (h : Each R as ts) {i : Nat} (hi : i < ts.length) : ∃ a, as[i]? = some a ∧ R a ts[i] := by
  have hl : i < as.length := by rw [h.1]; exact hi
  exact ⟨as[i], by simp [hl], h.2 i _ _ (by simp [hl]) (by simp [hi])⟩
section
variable {P : Program} {w : World} {K : PySem.W.Frag} {mg : Str → Option Value} {base : Heap}
def spChk (C CT CK CC : Addr) (f : Chk → WStm → Except CErr Chk) (pre : WStm → Prop) : Sp := fun vs H Q E => ∃ (c dx l a : Addr) (k : Chk) (s : WStm), vs = [.ref c, .ref a] ∧ CheckAt CK H c dx l k ∧ StmX C CT l H a s ∧ GoodStm s ∧ pre s ∧ k.names.length ≤ 8 ∧ k.starts ≤ 20 ∧ s.names.length ≤ 50000 ∧
  (∀ k', f k s = .ok k' → ∀ H', Same2 c l H H' → CheckAt CK H' c dx l k' → Q .non H') ∧ (∀ r x y, f k s = .error (r, x, y) → EChk2 CC c l H E r x y)
theorem sc_Checker_check_valves : FnScope ["self", "statement", "token"] ["self", "statement"] (defScope s_Checker_check_valves) := ⟨rfl, rfl, rfl, by decide +kernel, rfl, by decide +kernel, by decide +kernel⟩
def valvesS (k : Chk) (s : WStm) : Except CErr Chk := match valvesC s.names k.names with | .error e => .error e | .ok ns => .ok ⟨k.period, ns, k.starts, k.ranks⟩
def IVal (CK c dx l a : Addr) (k : Chk) (s : WStm) (H : Hp) (i : Nat) (σ : L2.St) (H' : Hp) : Prop := ∃ (ns : List (List Nat)) (v : Option V), σ = [some (.ref c), some (.ref a), v] ∧ Same2 c l H H' ∧ CheckAt CK H' c dx l ⟨k.period, ns, k.starts, k.ranks⟩ ∧ ns.length ≤ 8 ∧ valvesC s.names k.names = valvesC (s.names.drop i) ns
theorem ok_Checker_check_valves {f C CT CK CS CC : Addr} {fd : FuncData} (F : Fun K "check_valves" "Checker.check_valves" s_Checker_check_valves f fd) (T : TopF w K mg) (TE : TErr P w K mg base CS CC) (TK : CToken K C) (T_Checker : CChecker K CK) (TS : CStatement K CT) : FnOk P w K mg base (L2.CX P w) 6 f fd ["self", "statement"] (spChk C CT CK CC valvesS (fun _ => True)) := by
  refine F.okX sc_Checker_check_valves (fun vs H Q E h => ?_) (fun cdv A outer s H vs Q E hr h => ?_)
  · obtain ⟨c, dx, l, a, k, s, rfl, _⟩ := h
    rfl
  · obtain ⟨c, dx, l, a, k, s, rfl, hC, hS, hG, _, hn8, _, hlen, kY, kN⟩ := h
    refine ⟨_, (pss_one (ps_for (passes_of rfl) rfl (pi_list (pe_fld (pv 1) rfl)) (pg_name (i := 2) sc_Checker_check_valves.nd rfl (Or.inl rfl)) (pss_cons (ps_if (pt_cmpR op_in_seq (pe_fld (pv 2) rfl) (pe_fld (pv 0) rfl) (by rfl)) (pss_one (ps_raise rfl (takes_of rfl rfl rfl rfl) (pmk_chk TE (hr.mono (by decide)) (pa_cons pe_str (pa_cons (pe_fld (pv 2) rfl) (pa_cons (pe_fld (pv 2) rfl) pa_nil)))))) pss_nil)
      (pss_cons (ps_if (pt_cmpR op_eq (pe_callB call_len_seq (by rfl) T.z_len (by decide +kernel) (pa_cons (pe_fld (pv 0) rfl) pa_nil)) (pe_glob (v := .int 8) rfl T.g_MOST_VALVES.choose_spec ⟨_, rfl⟩) (nomark _)) (pss_one (ps_raise rfl (takes_of rfl rfl rfl rfl) (pmk_chk TE (hr.mono (by decide)) (pa_cons pe_str (pa_cons (pe_fld (pv 2) rfl) (pa_cons (pe_fld (pv 2) rfl) pa_nil)))))) pss_nil)
      (pss_one (ps_expr (pe_bm PySem.F.plainAttrs_list PySem.F.slot_list_append PySem.F.type_list_append mt_append (pe_fld (pv 0) rfl) (pa_cons (pe_fld (pv 2) rfl) pa_nil)))))))), ?_⟩
    obtain ⟨dq, kk, ln, lm, nas, mas, W, f1, f2⟩ := id hS
    have hlc : ln ≠ c := ne_of W.nl hC.ob (by intro z; cases z)
    refine ⟨_, rfl, a, CT, dq, _, _, rfl, W.ob, TS.cl, TS.n2, by simp only [V.ref.injEq, V.int.injEq, V.str.injEq, List.cons.injEq, Option.some.injEq, HO.ins.injEq, and_assoc, exists_and_left, exists_eq_left', exists_eq_left, true_and, and_true, upd_same, upd_upd, putF_nil, putF_cons, lookup_put, lookup_nil, if_false, if_true, List.length_cons, List.length_nil, exists_eq', exists_eq, Nat.reduceAdd, Nat.reduceLT, Nat.zero_add, n_keyword_names, n_keyword_numbers, n_names_keyword, n_names_numbers, n_numbers_keyword, n_numbers_names], ln, rfl, ⟨_, SqL.of W.nl⟩, ?_⟩
    refine for_it (walk_list (xs := nas.map V.ref)) (IVal CK c dx l a k s H) ⟨k.names, none, rfl, Same2.refl H, hC, hn8, rfl⟩ (fun i σ H' _ h => ?_) ?_ ?_
    · obtain ⟨_, _, _, s2, _⟩ := h
      exact SqL.of (s2 _ _ hlc f1 W.nl)
    · rintro i x σ H1 H2 hi ⟨ns, v, rfl, s2, hC2, h8, e1⟩ ⟨rfl, ex⟩
      rw [List.length_map, W.ne.1] at hi
      obtain ⟨ta, hta, hT⟩ := W.ne.get hi
      have ex' : x = V.ref ta := by
        rw [List.getElem?_map, hta] at ex
        exact (Option.some.inj ex).symm
      subst ex'
      have hT2 := chk_tok hC s2 hT
      have hB := (hG.nm _ (List.getElem_mem hi)).1.b
      have hb1 := hB.1
      have hb2 := hB.2.1
      rw [List.drop_eq_getElem_cons hi, valvesC] at e1
      obtain ⟨dy, hy⟩ := id hT2
      walk_at "rd"
      simp only [hy, hC2.ob, TK.cl, TK.n1, TK.n2, TK.n3, TK.n4, T_Checker.cl, T_Checker.n2, V.ref.injEq, V.int.injEq, V.str.injEq, List.cons.injEq, Option.some.injEq, HO.ins.injEq, and_assoc, exists_and_left, exists_eq_left', exists_eq_left, true_and, and_true, upd_same, upd_upd, putF_nil, putF_cons, lookup_put, lookup_nil, if_false, if_true, List.length_cons, List.length_nil, exists_eq', exists_eq, Nat.reduceAdd, Nat.reduceLT, Nat.zero_add, n_kind_text, n_kind_line, n_kind_column, n_text_kind, n_text_line, n_text_column, n_line_kind, n_line_text, n_line_column, n_column_kind, n_column_text, n_column_line, n_period_names, n_period_starts, n_period_ranks, n_names_period, n_names_starts, n_names_ranks, n_starts_period, n_starts_names, n_starts_ranks, n_ranks_period, n_ranks_names, n_ranks_starts, n_check_period, n_check_names, n_check_starts, n_check_ranks, n_check_valves_period, n_check_valves_names, n_check_valves_starts, n_check_valves_ranks, n_check_start_period, n_check_start_names, n_check_start_starts, n_check_start_ranks, n_check_pause_period, n_check_pause_names, n_check_pause_starts, n_check_pause_ranks, n_check_rank_period, n_check_rank_names, n_check_rank_starts, n_check_rank_ranks, n_check_known_period, n_check_known_names, n_check_known_starts, n_check_known_ranks]
      refine ⟨l, _, rfl, .inl (SqL.of hC2.nm), rfl, flat_strs _, _, rfl, ?_⟩
      rw [inV_strs]
      simp only [Bool.false_eq_true, if_false, decide_eq_true_eq]
      by_cases h : s.names[i].text ∈ ns
      · rw [if_pos h] at e1
        rw [if_pos h]
        simp only [hy, TK.cl, TK.n1, TK.n2, TK.n3, TK.n4, V.ref.injEq, V.int.injEq, V.str.injEq, List.cons.injEq, Option.some.injEq, HO.ins.injEq, and_assoc, exists_and_left, exists_eq_left', exists_eq_left, true_and, and_true, upd_same, upd_upd, putF_nil, putF_cons, lookup_put, lookup_nil, if_false, if_true, List.length_cons, List.length_nil, exists_eq', exists_eq, Nat.reduceAdd, Nat.reduceLT, Nat.zero_add, n_kind_text, n_kind_line, n_kind_column, n_text_kind, n_text_line, n_text_column, n_line_kind, n_line_text, n_line_column, n_column_kind, n_column_text, n_column_line]
        exact ⟨duplicateR, by rw [str_duplicate], _, rfl, _, rfl, by decide, by omega, by omega, (kN _ _ _ (by rw [valvesS, e1]; rfl)).to s2 ⟨_, hC2.ob⟩ ⟨_, hC2.nm⟩⟩
      · rw [if_neg h] at e1
        rw [if_neg h]
        simp only [hC2.ob, T_Checker.cl, T_Checker.n2, V.ref.injEq, V.int.injEq, V.str.injEq, List.cons.injEq, Option.some.injEq, HO.ins.injEq, and_assoc, exists_and_left, exists_eq_left', exists_eq_left, true_and, and_true, upd_same, upd_upd, putF_nil, putF_cons, lookup_put, lookup_nil, if_false, if_true, List.length_cons, List.length_nil, exists_eq', exists_eq, Nat.reduceAdd, Nat.reduceLT, Nat.zero_add, n_period_names, n_period_starts, n_period_ranks, n_names_period, n_names_starts, n_names_ranks, n_starts_period, n_starts_names, n_starts_ranks, n_ranks_period, n_ranks_names, n_ranks_starts, n_check_period, n_check_names, n_check_starts, n_check_ranks, n_check_valves_period, n_check_valves_names, n_check_valves_starts, n_check_valves_ranks, n_check_start_period, n_check_start_names, n_check_start_starts, n_check_start_ranks, n_check_pause_period, n_check_pause_names, n_check_pause_starts, n_check_pause_ranks, n_check_rank_period, n_check_rank_names, n_check_rank_starts, n_check_rank_ranks, n_check_known_period, n_check_known_names, n_check_known_starts, n_check_known_ranks]
        refine ⟨_, .inl (SqL.of hC2.nm), ?_⟩
        walk_at "rd"
        rw [List.length_map]
        by_cases h2 : ns.length = 8
        · rw [if_pos (by omega)]
          rw [if_pos h2] at e1
          simp only [hy, TK.cl, TK.n1, TK.n2, TK.n3, TK.n4, V.ref.injEq, V.int.injEq, V.str.injEq, List.cons.injEq, Option.some.injEq, HO.ins.injEq, and_assoc, exists_and_left, exists_eq_left', exists_eq_left, true_and, and_true, upd_same, upd_upd, putF_nil, putF_cons, lookup_put, lookup_nil, if_false, if_true, List.length_cons, List.length_nil, exists_eq', exists_eq, Nat.reduceAdd, Nat.reduceLT, Nat.zero_add, n_kind_text, n_kind_line, n_kind_column, n_text_kind, n_text_line, n_text_column, n_line_kind, n_line_text, n_line_column, n_column_kind, n_column_text, n_column_line]
          exact ⟨valvesK, by rw [str_valves], _, rfl, _, rfl, by decide, by omega, by omega, (kN _ _ _ (by rw [valvesS, e1]; rfl)).to s2 ⟨_, hC2.ob⟩ ⟨_, hC2.nm⟩⟩
        · rw [if_neg (by omega)]
          rw [if_neg h2] at e1
          simp only [hy, hC2.ob, TK.cl, TK.n1, TK.n2, TK.n3, TK.n4, T_Checker.cl, T_Checker.n2, V.ref.injEq, V.int.injEq, V.str.injEq, List.cons.injEq, Option.some.injEq, HO.ins.injEq, and_assoc, exists_and_left, exists_eq_left', exists_eq_left, true_and, and_true, upd_same, upd_upd, putF_nil, putF_cons, lookup_put, lookup_nil, if_false, if_true, List.length_cons, List.length_nil, exists_eq', exists_eq, Nat.reduceAdd, Nat.reduceLT, Nat.zero_add, n_kind_text, n_kind_line, n_kind_column, n_text_kind, n_text_line, n_text_column, n_line_kind, n_line_text, n_line_column, n_column_kind, n_column_text, n_column_line, n_period_names, n_period_starts, n_period_ranks, n_names_period, n_names_starts, n_names_ranks, n_starts_period, n_starts_names, n_starts_ranks, n_ranks_period, n_ranks_names, n_ranks_starts, n_check_period, n_check_names, n_check_starts, n_check_ranks, n_check_valves_period, n_check_valves_names, n_check_valves_starts, n_check_valves_ranks, n_check_start_period, n_check_start_names, n_check_start_starts, n_check_start_ranks, n_check_pause_period, n_check_pause_names, n_check_pause_starts, n_check_pause_ranks, n_check_rank_period, n_check_rank_names, n_check_rank_starts, n_check_rank_ranks, n_check_known_period, n_check_known_names, n_check_known_starts, n_check_known_ranks]
          refine ⟨tyV_lst hC2.nm, _, hC2.nm, line_lt (show (ns.map fun n => V.str (S n)).length ≤ 100000 by rw [List.length_map]; omega), ?_⟩
          have hlc2 : l ≠ c := ne_of hC2.nm hC2.ob (by intro z; cases z)
          refine ⟨ns ++ [s.names[i].text], _, rfl, s2.upd2, ⟨by rw [upd_ne hlc2.symm]; exact hC2.ob, by rw [upd_same]; simp⟩, by simp; omega, e1⟩
    · rintro σ H1 ⟨ns, v, rfl, s2, hC2, h8, e1⟩
      rw [List.length_map, W.ne.1, List.drop_length, valvesC] at e1
      exact kY _ (by rw [valvesS, e1]) H1 s2 hC2
theorem sc_Checker_check_start : FnScope ["self", "statement", "tick", "water"] ["self", "statement"] (defScope s_Checker_check_start) := ⟨rfl, rfl, rfl, by decide +kernel, rfl, by decide +kernel, by decide +kernel⟩
theorem ok_Checker_check_start {f C CT CK CS CC : Addr} {fd : FuncData} (F : Fun K "check_start" "Checker.check_start" s_Checker_check_start f fd) (T : TopF w K mg) (TE : TErr P w K mg base CS CC) (TK : CToken K C) (T_Checker : CChecker K CK) (TS : CStatement K CT)
    (D_Checker_check_known : DM P w K mg base (L2.CX P w) 6 CK "check_known" ["self", "token"] (sp_Checker_check_known C CK CC)) (D__limited : DF P w K mg base (L2.CX P w) 6 "_limited" ["token", "low", "high", "reason"] (sp__limited C CC)) :
    FnOk P w K mg base (L2.CX P w) 8 f fd ["self", "statement"] (spChk C CT CK CC startC (fun s => s.key.text = startK)) := by
  refine F.okX sc_Checker_check_start (fun vs H Q E h => ?_) (fun cdv A outer s H vs Q E hr h => ?_)
  · obtain ⟨c, dx, l, a, k, s, rfl, _⟩ := h
    rfl
  · obtain ⟨c, dx, l, a, k, s, rfl, hC, hS, hG, hkey, hn8, hst, hlen, kY, kN⟩ := h
    refine ⟨_, (pss_cons (ps_fldaug (pv 0) pe_int in_add)
      (pss_cons (ps_if (pt_cmpR op_gt (pe_fld (pv 0) rfl) (pe_glob (v := .int 20) rfl T.g_MOST_STARTS.choose_spec ⟨_, rfl⟩) (nomark _)) (pss_one (ps_raise rfl (takes_of rfl rfl rfl rfl) (pmk_chk TE (hr.mono (by decide)) (pa_cons pe_str (pa_cons (pe_fld (pe_fld (pv 1) rfl) rfl) (pa_cons (pe_fld (pe_fld (pv 1) rfl) rfl) pa_nil)))))) pss_nil)
      (pss_cons (ps_expr (pe_meth (pv 0) T_Checker.cl D_Checker_check_known.m D_Checker_check_known.G (hr.mono (by decide)) D_Checker_check_known.b .nil (passes_call (takes_of rfl rfl rfl rfl) fun _ _ _ _ z => z) (pa_cons (pe_ix ix_list (pe_fld (pv 1) rfl) pe_int (fun _ _ => rfl)) pa_nil)))
      (pss_cons (ps_asg (pe_fld (pv 1) rfl) (pg_unl rfl (pgs_cons (pg_name (i := 2) sc_Checker_check_start.nd rfl (Or.inl rfl)) (pgs_cons (pg_name (i := 3) sc_Checker_check_start.nd rfl (Or.inl rfl)) pgs_nil))))
      (pss_cons (ps_expr (pe_call D__limited.G (hr.mono (by decide)) rfl D__limited.mg D__limited.kp D__limited.b .nil (passes_call (takes_of rfl rfl rfl rfl) fun _ _ _ _ z => z) (pa_cons (pv 2) (pa_cons pe_int (pa_cons (pe_op op_sub (pe_fld (pv 0) rfl) pe_int) (pa_cons pe_str pa_nil))))))
      (pss_one (ps_expr (pe_call D__limited.G (hr.mono (by decide)) rfl D__limited.mg D__limited.kp D__limited.b .nil (passes_call (takes_of rfl rfl rfl rfl) fun _ _ _ _ z => z) (pa_cons (pv 3) (pa_cons pe_int (pa_cons (pe_glob (v := .int 30) rfl T.g_MOST_WATER.choose_spec ⟨_, rfl⟩) (pa_cons pe_str pa_nil)))))))))))), ?_⟩
    obtain ⟨dq, kk, ln, lm, nas, mas, W, f1, f2⟩ := id hS
    obtain ⟨hac, hal⟩ := chk_stm_ne hC W.ob
    have hlc : l ≠ c := ne_of hC.nm hC.ob (by intro z; cases z)
    walk_at "rd"
    simp only [hC.ob, T_Checker.cl, T_Checker.n3, V.ref.injEq, V.int.injEq, V.str.injEq, List.cons.injEq, Option.some.injEq, HO.ins.injEq, and_assoc, exists_and_left, exists_eq_left', exists_eq_left, true_and, and_true, upd_same, upd_upd, putF_nil, putF_cons, lookup_put, lookup_nil, if_false, if_true, List.length_cons, List.length_nil, exists_eq', exists_eq, Nat.reduceAdd, Nat.reduceLT, Nat.zero_add, n_period_names, n_period_starts, n_period_ranks, n_names_period, n_names_starts, n_names_ranks, n_starts_period, n_starts_names, n_starts_ranks, n_ranks_period, n_ranks_names, n_ranks_starts, n_check_period, n_check_names, n_check_starts, n_check_ranks, n_check_valves_period, n_check_valves_names, n_check_valves_starts, n_check_valves_ranks, n_check_start_period, n_check_start_names, n_check_start_starts, n_check_start_ranks, n_check_pause_period, n_check_pause_names, n_check_pause_starts, n_check_pause_ranks, n_check_rank_period, n_check_rank_names, n_check_rank_starts, n_check_rank_ranks, n_check_known_period, n_check_known_names, n_check_known_starts, n_check_known_ranks]
    walk_at "rd"
    try simp only [hC.ob, T_Checker.cl, T_Checker.n3, V.ref.injEq, V.int.injEq, V.str.injEq, List.cons.injEq, Option.some.injEq, HO.ins.injEq, and_assoc, exists_and_left, exists_eq_left', exists_eq_left, true_and, and_true, upd_same, upd_upd, putF_nil, putF_cons, lookup_put, lookup_nil, if_false, if_true, List.length_cons, List.length_nil, exists_eq', exists_eq, Nat.reduceAdd, Nat.reduceLT, Nat.zero_add, n_period_names, n_period_starts, n_period_ranks, n_names_period, n_names_starts, n_names_ranks, n_starts_period, n_starts_names, n_starts_ranks, n_ranks_period, n_ranks_names, n_ranks_starts, n_check_period, n_check_names, n_check_starts, n_check_ranks, n_check_valves_period, n_check_valves_names, n_check_valves_starts, n_check_valves_ranks, n_check_start_period, n_check_start_names, n_check_start_starts, n_check_start_ranks, n_check_pause_period, n_check_pause_names, n_check_pause_starts, n_check_pause_ranks, n_check_rank_period, n_check_rank_names, n_check_rank_starts, n_check_rank_ranks, n_check_known_period, n_check_known_names, n_check_known_starts, n_check_known_ranks]
    have s2 : Same2 c l H (upd H c (.ins CK dx [("period", .int (k.period : Nat)), ("names", .ref l), ("starts", .int ((k.starts : Nat) + 1)), ("ranks", .int (k.ranks : Nat))])) := (Same2.refl H).upd1
    have hC2 : CheckAt CK (upd H c (.ins CK dx [("period", .int (k.period : Nat)), ("names", .ref l), ("starts", .int ((k.starts : Nat) + 1)), ("ranks", .int (k.ranks : Nat))])) c dx l ⟨k.period, k.names, k.starts + 1, k.ranks⟩ := ⟨by rw [upd_same]; rfl, by rw [upd_ne hlc]; exact hC.nm⟩
    generalize upd H c (.ins CK dx [("period", .int (k.period : Nat)), ("names", .ref l), ("starts", .int ((k.starts : Nat) + 1)), ("ranks", .int (k.ranks : Nat))]) = H2 at s2 hC2 ⊢
    obtain ⟨dq', kk', ln', lm', nas', mas', W2, g1, g2⟩ := chk_stm hC s2 hS
    unfold startC at kY kN
    by_cases h20 : 20 < k.starts + 1
    · rw [if_pos (by omega)]
      obtain ⟨dy, hy⟩ := W2.ke
      have hB := hG.ke.b
      have hb1 := hB.1
      have hb2 := hB.2.1
      simp only [W2.ob, hy, TS.cl, TS.n1, TK.cl, TK.n3, TK.n4, V.ref.injEq, V.int.injEq, V.str.injEq, List.cons.injEq, Option.some.injEq, HO.ins.injEq, and_assoc, exists_and_left, exists_eq_left', exists_eq_left, true_and, and_true, upd_same, upd_upd, putF_nil, putF_cons, lookup_put, lookup_nil, if_false, if_true, List.length_cons, List.length_nil, exists_eq', exists_eq, Nat.reduceAdd, Nat.reduceLT, Nat.zero_add, n_keyword_names, n_keyword_numbers, n_names_keyword, n_names_numbers, n_numbers_keyword, n_numbers_names, n_kind_text, n_kind_line, n_kind_column, n_text_kind, n_text_line, n_text_column, n_line_kind, n_line_text, n_line_column, n_column_kind, n_column_text, n_column_line]
      exact ⟨startsR, by rw [str_starts], _, rfl, _, rfl, by decide, by omega, by omega, (kN _ _ _ (if_pos h20)).to s2 ⟨_, hC2.ob⟩ ⟨_, hC2.nm⟩⟩
    · rw [if_neg (by omega)]
      obtain ⟨q1, q2⟩ := hG.l2 hkey
      have hG1 := hG.nm
      have hG2 := hG.nu
      have WE := W2.ne
      have WM := W2.me
      obtain ⟨t1, ht1⟩ : ∃ t, s.names = [t] := by
        match hh : s.names, q1 with
        | [t], _ => exact ⟨t, rfl⟩
      obtain ⟨t2, t3, ht2⟩ : ∃ t u, s.numbers = [t, u] := by
        match hh : s.numbers, q2 with
        | [t, u], _ => exact ⟨t, u, rfl⟩
      rw [ht1] at hG1 WE
      rw [ht2] at hG2 WM
      simp only [h20, if_false, ht1, ht2] at kY kN
      obtain ⟨a1, ha1, hT1⟩ := WE.get (i := 0) (by simp)
      obtain ⟨a2, ha2, hT2⟩ := WM.get (i := 0) (by simp)
      obtain ⟨a3, ha3, hT3⟩ := WM.get (i := 1) (by simp)
      simp only [hC2.ob, W2.ob, TS.cl, TS.n2, V.ref.injEq, V.int.injEq, V.str.injEq, List.cons.injEq, Option.some.injEq, HO.ins.injEq, and_assoc, exists_and_left, exists_eq_left', exists_eq_left, true_and, and_true, upd_same, upd_upd, putF_nil, putF_cons, lookup_put, lookup_nil, if_false, if_true, List.length_cons, List.length_nil, exists_eq', exists_eq, Nat.reduceAdd, Nat.reduceLT, Nat.zero_add, n_period_names, n_period_starts, n_period_ranks, n_names_period, n_names_starts, n_names_ranks, n_starts_period, n_starts_names, n_starts_ranks, n_ranks_period, n_ranks_names, n_ranks_starts, n_check_period, n_check_names, n_check_starts, n_check_ranks, n_check_valves_period, n_check_valves_names, n_check_valves_starts, n_check_valves_ranks, n_check_start_period, n_check_start_names, n_check_start_starts, n_check_start_ranks, n_check_pause_period, n_check_pause_names, n_check_pause_starts, n_check_pause_ranks, n_check_rank_period, n_check_rank_names, n_check_rank_starts, n_check_rank_ranks, n_check_known_period, n_check_known_names, n_check_known_starts, n_check_known_ranks, n_keyword_names, n_keyword_numbers, n_names_keyword, n_names_numbers, n_numbers_keyword, n_numbers_names]
      refine ⟨_, SqL.of W2.nl, V.ref a1, atI_nat (j := 0) (by rw [List.getElem?_map, ha1]; rfl), ?_⟩
      refine ⟨c, dx, l, a1, ⟨k.period, k.names, k.starts + 1, k.ranks⟩, t1, rfl, hC2, hT1, (hG1 t1 (by simp)).1.b, fun hk => ?_, fun r x y he => ?_⟩
      · have hk' : known k.names t1 = .ok () := hk
        rw [hk'] at kY kN
        dsimp only at kY kN
        obtain ⟨b2, b3, hbs⟩ : ∃ x y, mas' = [x, y] := by
          have := WM.1
          match hh : mas', this with
          | [x, y], _ => exact ⟨x, y, rfl⟩
        have hb2 : b2 = a2 := by
          rw [hbs] at ha2
          exact Option.some.inj ha2
        have hb3 : b3 = a3 := by
          rw [hbs] at ha3
          exact Option.some.inj ha3
        subst hb2 hb3
        simp only [W2.ob, TS.cl, TS.n3, V.ref.injEq, V.int.injEq, V.str.injEq, List.cons.injEq, Option.some.injEq, HO.ins.injEq, and_assoc, exists_and_left, exists_eq_left', exists_eq_left, true_and, and_true, upd_same, upd_upd, putF_nil, putF_cons, lookup_put, lookup_nil, if_false, if_true, List.length_cons, List.length_nil, exists_eq', exists_eq, Nat.reduceAdd, Nat.reduceLT, Nat.zero_add, n_keyword_names, n_keyword_numbers, n_names_keyword, n_names_numbers, n_numbers_keyword, n_numbers_names]
        refine ⟨lm', _, rfl, SqL.of W2.ml, by rw [hbs]; rfl, ?_⟩
        rw [hbs]
        walk_at "rd"
        simp only [hC2.ob, T_Checker.cl, T_Checker.n1, V.ref.injEq, V.int.injEq, V.str.injEq, List.cons.injEq, Option.some.injEq, HO.ins.injEq, and_assoc, exists_and_left, exists_eq_left', exists_eq_left, true_and, and_true, upd_same, upd_upd, putF_nil, putF_cons, lookup_put, lookup_nil, if_false, if_true, List.length_cons, List.length_nil, exists_eq', exists_eq, Nat.reduceAdd, Nat.reduceLT, Nat.zero_add, n_period_names, n_period_starts, n_period_ranks, n_names_period, n_names_starts, n_names_ranks, n_starts_period, n_starts_names, n_starts_ranks, n_ranks_period, n_ranks_names, n_ranks_starts, n_check_period, n_check_names, n_check_starts, n_check_ranks, n_check_valves_period, n_check_valves_names, n_check_valves_starts, n_check_valves_ranks, n_check_start_period, n_check_start_names, n_check_start_starts, n_check_start_ranks, n_check_pause_period, n_check_pause_names, n_check_pause_starts, n_check_pause_ranks, n_check_rank_period, n_check_rank_names, n_check_rank_starts, n_check_rank_ranks, n_check_known_period, n_check_known_names, n_check_known_starts, n_check_known_ranks]
        walk_at "rd"
        have e2 := hG2 t2 (by simp)
        have e3 := hG2 t3 (by simp)
        refine ⟨b2, t2, 0, ((k.period : Nat) : Int) - 1, tickR, by rw [str_tick], hT2, e2.1.nu e2.2, e2.1.b, by decide, fun v hv => ?_, fun r x y he => ?_⟩
        · rw [hv] at kY kN
          dsimp only at kY kN
          refine ⟨b3, t3, 1, 30, lengthR, by rw [str_length], hT3, e3.1.nu e3.2, e3.1.b, by decide, fun v2 hv2 => ?_, fun r x y he => ?_⟩
          · rw [hv2] at kY
            exact kY _ rfl H2 s2 hC2
          · rw [he] at kN
            exact (kN _ _ _ rfl).to s2 ⟨_, hC2.ob⟩ ⟨_, hC2.nm⟩
        · rw [he] at kN
          exact (kN _ _ _ rfl).to s2 ⟨_, hC2.ob⟩ ⟨_, hC2.nm⟩
      · have he' : known k.names t1 = .error (r, x, y) := he
        rw [he'] at kN
        exact (kN _ _ _ rfl).to s2 ⟨_, hC2.ob⟩ ⟨_, hC2.nm⟩
theorem sc_Checker_check_pause : FnScope ["self", "statement", "first", "last", "latest"] ["self", "statement"] (defScope s_Checker_check_pause) := ⟨rfl, rfl, rfl, by decide +kernel, rfl, by decide +kernel, by decide +kernel⟩
theorem ok_Checker_check_pause {f C CT CK CS CC : Addr} {fd : FuncData} (F : Fun K "check_pause" "Checker.check_pause" s_Checker_check_pause f fd) (TK : CToken K C) (T_Checker : CChecker K CK) (TS : CStatement K CT)
    (D__limited : DF P w K mg base (L2.CX P w) 6 "_limited" ["token", "low", "high", "reason"] (sp__limited C CC)) :
    FnOk P w K mg base (L2.CX P w) 8 f fd ["self", "statement"] (spChk C CT CK CC pauseC (fun s => s.key.text = pauseK)) := by
  refine F.okX sc_Checker_check_pause (fun vs H Q E h => ?_) (fun cdv A outer s H vs Q E hr h => ?_)
  · obtain ⟨c, dx, l, a, k, s, rfl, _⟩ := h
    rfl
  · obtain ⟨c, dx, l, a, k, s, rfl, hC, hS, hG, hkey, hn8, hst, hlen, kY, kN⟩ := h
    refine ⟨_, (pss_cons (ps_asg (pe_fld (pv 1) rfl) (pg_unl rfl (pgs_cons (pg_name (i := 2) sc_Checker_check_pause.nd rfl (Or.inl rfl)) (pgs_cons (pg_name (i := 3) sc_Checker_check_pause.nd rfl (Or.inl rfl)) pgs_nil))))
      (pss_cons (ps_set (i := 4) sc_Checker_check_pause.nd rfl (Or.inl rfl) (pe_call D__limited.G (hr.mono (by decide)) rfl D__limited.mg D__limited.kp D__limited.b .nil (passes_call (takes_of rfl rfl rfl rfl) fun _ _ _ _ z => z) (pa_cons (pv 3) (pa_cons pe_int (pa_cons (pe_op op_sub (pe_fld (pv 0) rfl) pe_int) (pa_cons pe_str pa_nil))))))
      (pss_one (ps_expr (pe_call D__limited.G (hr.mono (by decide)) rfl D__limited.mg D__limited.kp D__limited.b .nil (passes_call (takes_of rfl rfl rfl rfl) fun _ _ _ _ z => z) (pa_cons (pv 2) (pa_cons pe_int (pa_cons (pv 4) (pa_cons pe_str pa_nil))))))))), ?_⟩
    obtain ⟨dq, kk, ln, lm, nas, mas, W, f1, f2⟩ := id hS
    walk_at "rd"
    have q2 := hG.l3 hkey
    have hG2 := hG.nu
    have WM := W.me
    obtain ⟨t2, t3, ht2⟩ : ∃ t u, s.numbers = [t, u] := by
      match hh : s.numbers, q2 with
      | [t, u], _ => exact ⟨t, u, rfl⟩
    rw [ht2] at hG2 WM
    unfold pauseC at kY kN
    simp only [ht2] at kY kN
    obtain ⟨b2, b3, hbs⟩ : ∃ x y, mas = [x, y] := by
      have := WM.1
      match hh : mas, this with
      | [x, y], _ => exact ⟨x, y, rfl⟩
    have hT2 : TokAt C H b2 t2 := WM.2 0 _ _ (by rw [hbs]; rfl) rfl
    have hT3 : TokAt C H b3 t3 := WM.2 1 _ _ (by rw [hbs]; rfl) rfl
    simp only [W.ob, TS.cl, TS.n3, V.ref.injEq, V.int.injEq, V.str.injEq, List.cons.injEq, Option.some.injEq, HO.ins.injEq, and_assoc, exists_and_left, exists_eq_left', exists_eq_left, true_and, and_true, upd_same, upd_upd, putF_nil, putF_cons, lookup_put, lookup_nil, if_false, if_true, List.length_cons, List.length_nil, exists_eq', exists_eq, Nat.reduceAdd, Nat.reduceLT, Nat.zero_add, n_keyword_names, n_keyword_numbers, n_names_keyword, n_names_numbers, n_numbers_keyword, n_numbers_names]
    refine ⟨lm, _, rfl, SqL.of W.ml, by rw [hbs]; rfl, ?_⟩
    rw [hbs]
    walk_at "rd"
    simp only [hC.ob, T_Checker.cl, T_Checker.n1, V.ref.injEq, V.int.injEq, V.str.injEq, List.cons.injEq, Option.some.injEq, HO.ins.injEq, and_assoc, exists_and_left, exists_eq_left', exists_eq_left, true_and, and_true, upd_same, upd_upd, putF_nil, putF_cons, lookup_put, lookup_nil, if_false, if_true, List.length_cons, List.length_nil, exists_eq', exists_eq, Nat.reduceAdd, Nat.reduceLT, Nat.zero_add, n_period_names, n_period_starts, n_period_ranks, n_names_period, n_names_starts, n_names_ranks, n_starts_period, n_starts_names, n_starts_ranks, n_ranks_period, n_ranks_names, n_ranks_starts, n_check_period, n_check_names, n_check_starts, n_check_ranks, n_check_valves_period, n_check_valves_names, n_check_valves_starts, n_check_valves_ranks, n_check_start_period, n_check_start_names, n_check_start_starts, n_check_start_ranks, n_check_pause_period, n_check_pause_names, n_check_pause_starts, n_check_pause_ranks, n_check_rank_period, n_check_rank_names, n_check_rank_starts, n_check_rank_ranks, n_check_known_period, n_check_known_names, n_check_known_starts, n_check_known_ranks]
    walk_at "rd"
    have e2 := hG2 t2 (by simp)
    have e3 := hG2 t3 (by simp)
    refine ⟨b3, t3, 0, ((k.period : Nat) : Int) - 1, pauseK, by rw [str_pause], hT3, e3.1.nu e3.2, e3.1.b, by decide, fun v hv => ?_, fun r x y he => ?_⟩
    · rw [hv] at kY kN
      dsimp only at kY kN
      walk_at "rd"
      refine ⟨b2, t2, 0, ((v : Nat) : Int), pauseK, by rw [str_pause], hT2, e2.1.nu e2.2, e2.1.b, by decide, fun v2 hv2 => ?_, fun r x y he => ?_⟩
      · rw [hv2] at kY
        exact kY _ rfl H (Same2.refl H) hC
      · rw [he] at kN
        exact (kN _ _ _ rfl).to (Same2.refl H) ⟨_, hC.ob⟩ ⟨_, hC.nm⟩
    · rw [he] at kN
      exact (kN _ _ _ rfl).to (Same2.refl H) ⟨_, hC.ob⟩ ⟨_, hC.nm⟩
end

end Wv
end WvC2_
section WvC3_
set_option Elab.async false
set_option linter.all false
set_option maxRecDepth 100000
set_option maxHeartbeats 4000000
namespace Wv
open PySem L2
open SX (S S_len S_inj)
local macro_rules | `(tactic| walk_at "rd") => `(tactic| (try simp only [tVar, tC, tB, tAnd, tOr, tNot, tAndV, tOrV, tNotV, tIf, tNext, tSeq, tBreak, tCont, tDrop, tRet, tRetN, tIfS, gName, gNil, gCons, gTup, gSub, tAsg, tPar, tAug, tOp, tUn, rI, rI0, rU, rEq, rNe, tTest, tFld, tNil, tCons, tTup, tLst, tCB, tNoPart, tPart, tSl, rIxL, rIxT, rIxS, rSlL, rSlS, tBM0, tBM, rAppend, rExtend, rCat, rRep, rSetL, tM0, tM1, tCall, tMeth, tMake, sFld, sFldAug, rAdd, rSub, ipI, tBM0,
  scal_ss, scal_ii, scal_bb, scal_ns, scal_sn, scal_nn, tyV_str, L2.start, List.map_cons, List.map_nil, List.length_cons, List.length_nil, List.replicate, List.cons_append, List.nil_append, List.append_nil, List.getElem?_cons_zero, List.getElem?_cons_succ, List.set_cons_zero, List.set_cons_succ, Nat.reduceAdd, Nat.reduceSub, Nat.zero_add, Nat.sub_self, Nat.add_one_sub_one,
  Option.some.injEq, exists_eq_left, exists_eq_left', exists_eq', exists_eq, V.int.injEq, V.str.injEq, V.ref.injEq, V.bl.injEq, reduceCtorEq, List.cons.injEq, and_true, true_and, exists_and_left, exists_and_right, and_assoc, decide_true, decide_false, if_true, if_false, ite_true, ite_false, Bool.false_eq_true, Bool.true_eq_false, eq_self_iff_true, cx_K, nox_K, tMkSyn, tMkChk, tYes, bne, ne_eq, not_false_eq_true, not_true_eq_false, Bool.not_true, Bool.not_false, decide_eq_true_eq, Bool.not_eq_true', decide_eq_false_iff_not]))
section
variable {P : Program} {w : World} {K : PySem.W.Frag} {mg : Str → Option Value} {base : Heap}
theorem sc_Checker_check_rank : FnScope ["self", "statement", "seen", "token"] ["self", "statement"] (defScope s_Checker_check_rank) := ⟨rfl, rfl, rfl, by decide +kernel, rfl, by decide +kernel, by decide +kernel⟩
def IRnk (CK c dx l a q : Addr) (k : Chk) (s : WStm) (H : Hp) (i : Nat) (σ : L2.St) (H' : Hp) : Prop := ∃ (seen : List (List Nat)) (v : Option V), σ = [some (.ref c), some (.ref a), some (.ref q), v] ∧ Same2 c l H H' ∧ CheckAt CK H' c dx l k ∧ H' q = some (.lst (seen.map fun n => V.str (S n))) ∧ seen.length ≤ i ∧ rankC k.names s.names [] = rankC k.names (s.names.drop i) seen
theorem ok_Checker_check_rank {f C CT CK CS CC : Addr} {fd : FuncData} (F : Fun K "check_rank" "Checker.check_rank" s_Checker_check_rank f fd) (T : TopF w K mg) (TE : TErr P w K mg base CS CC) (TK : CToken K C) (T_Checker : CChecker K CK) (TS : CStatement K CT)
    (D_Checker_check_known : DM P w K mg base (L2.CX P w) 6 CK "check_known" ["self", "token"] (sp_Checker_check_known C CK CC)) :
    FnOk P w K mg base (L2.CX P w) 8 f fd ["self", "statement"] (spChk C CT CK CC rankS (fun s => s.key.text = rankK)) := by
  refine F.okX sc_Checker_check_rank (fun vs H Q E h => ?_) (fun cdv A outer s H vs Q E hr h => ?_)
  · obtain ⟨c, dx, l, a, k, s, rfl, _⟩ := h
    rfl
  · obtain ⟨c, dx, l, a, k, s, rfl, hC, hS, hG, hkey, hn8, hst, hlen, kY, kN⟩ := h
    refine ⟨_, (pss_cons (ps_fldaug (pv 0) pe_int in_add)
      (pss_cons (ps_if (pt_cmpR op_gt (pe_fld (pv 0) rfl) pe_int (nomark _)) (pss_one (ps_raise rfl (takes_of rfl rfl rfl rfl) (pmk_chk TE (hr.mono (by decide)) (pa_cons pe_str (pa_cons (pe_fld (pe_fld (pv 1) rfl) rfl) (pa_cons (pe_fld (pe_fld (pv 1) rfl) rfl) pa_nil)))))) pss_nil)
      (pss_cons (ps_set (i := 2) sc_Checker_check_rank.nd rfl (Or.inl rfl) (pe_lst pa_nil))
      (pss_one (ps_for (passes_of rfl) rfl (pi_list (pe_fld (pv 1) rfl)) (pg_name (i := 3) sc_Checker_check_rank.nd rfl (Or.inl rfl)) (pss_cons (ps_expr (pe_meth (pv 0) T_Checker.cl D_Checker_check_known.m D_Checker_check_known.G (hr.mono (by decide)) D_Checker_check_known.b .nil (passes_call (takes_of rfl rfl rfl rfl) fun _ _ _ _ z => z) (pa_cons (pv 3) pa_nil)))
      (pss_cons (ps_if (pt_cmpR op_in_seq (pe_fld (pv 3) rfl) (pv 2) (by rfl)) (pss_one (ps_raise rfl (takes_of rfl rfl rfl rfl) (pmk_chk TE (hr.mono (by decide)) (pa_cons pe_str (pa_cons (pe_fld (pv 3) rfl) (pa_cons (pe_fld (pv 3) rfl) pa_nil)))))) pss_nil)
      (pss_one (ps_expr (pe_bm PySem.F.plainAttrs_list PySem.F.slot_list_append PySem.F.type_list_append mt_append (pv 2) (pa_cons (pe_fld (pv 3) rfl) pa_nil))))))))))), ?_⟩
    obtain ⟨dq, kk, ln, lm, nas, mas, W, f1, f2⟩ := id hS
    have hlc : l ≠ c := ne_of hC.nm hC.ob (by intro z; cases z)
    walk_at "rd"
    simp only [hC.ob, T_Checker.cl, T_Checker.n4, V.ref.injEq, V.int.injEq, V.str.injEq, List.cons.injEq, Option.some.injEq, HO.ins.injEq, and_assoc, exists_and_left, exists_eq_left', exists_eq_left, true_and, and_true, upd_same, upd_upd, putF_nil, putF_cons, lookup_put, lookup_nil, if_false, if_true, List.length_cons, List.length_nil, exists_eq', exists_eq, Nat.reduceAdd, Nat.reduceLT, Nat.zero_add, n_period_names, n_period_starts, n_period_ranks, n_names_period, n_names_starts, n_names_ranks, n_starts_period, n_starts_names, n_starts_ranks, n_ranks_period, n_ranks_names, n_ranks_starts, n_check_period, n_check_names, n_check_starts, n_check_ranks, n_check_valves_period, n_check_valves_names, n_check_valves_starts, n_check_valves_ranks, n_check_start_period, n_check_start_names, n_check_start_starts, n_check_start_ranks, n_check_pause_period, n_check_pause_names, n_check_pause_starts, n_check_pause_ranks, n_check_rank_period, n_check_rank_names, n_check_rank_starts, n_check_rank_ranks, n_check_known_period, n_check_known_names, n_check_known_starts, n_check_known_ranks]
    walk_at "rd"
    try simp only [hC.ob, T_Checker.cl, T_Checker.n4, V.ref.injEq, V.int.injEq, V.str.injEq, List.cons.injEq, Option.some.injEq, HO.ins.injEq, and_assoc, exists_and_left, exists_eq_left', exists_eq_left, true_and, and_true, upd_same, upd_upd, putF_nil, putF_cons, lookup_put, lookup_nil, if_false, if_true, List.length_cons, List.length_nil, exists_eq', exists_eq, Nat.reduceAdd, Nat.reduceLT, Nat.zero_add, n_period_names, n_period_starts, n_period_ranks, n_names_period, n_names_starts, n_names_ranks, n_starts_period, n_starts_names, n_starts_ranks, n_ranks_period, n_ranks_names, n_ranks_starts, n_check_period, n_check_names, n_check_starts, n_check_ranks, n_check_valves_period, n_check_valves_names, n_check_valves_starts, n_check_valves_ranks, n_check_start_period, n_check_start_names, n_check_start_starts, n_check_start_ranks, n_check_pause_period, n_check_pause_names, n_check_pause_starts, n_check_pause_ranks, n_check_rank_period, n_check_rank_names, n_check_rank_starts, n_check_rank_ranks, n_check_known_period, n_check_known_names, n_check_known_starts, n_check_known_ranks]
    have s2 : Same2 c l H (upd H c (.ins CK dx [("period", .int (k.period : Nat)), ("names", .ref l), ("starts", .int (k.starts : Nat)), ("ranks", .int ((k.ranks : Nat) + 1))])) := (Same2.refl H).upd1
    have hC2 : CheckAt CK (upd H c (.ins CK dx [("period", .int (k.period : Nat)), ("names", .ref l), ("starts", .int (k.starts : Nat)), ("ranks", .int ((k.ranks : Nat) + 1))])) c dx l ⟨k.period, k.names, k.starts, k.ranks + 1⟩ := ⟨by rw [upd_same]; rfl, by rw [upd_ne hlc]; exact hC.nm⟩
    generalize upd H c (.ins CK dx [("period", .int (k.period : Nat)), ("names", .ref l), ("starts", .int (k.starts : Nat)), ("ranks", .int ((k.ranks : Nat) + 1))]) = H2 at s2 hC2 ⊢
    obtain ⟨dq', kk', ln', lm', nas', mas', W2, g1, g2⟩ := chk_stm hC s2 hS
    unfold rankS at kY kN
    by_cases h20 : 1 < k.ranks + 1
    · rw [if_pos (by omega)]
      obtain ⟨dy, hy⟩ := W2.ke
      have hB := hG.ke.b
      have hb1 := hB.1
      have hb2 := hB.2.1
      simp only [W2.ob, hy, TS.cl, TS.n1, TK.cl, TK.n3, TK.n4, V.ref.injEq, V.int.injEq, V.str.injEq, List.cons.injEq, Option.some.injEq, HO.ins.injEq, and_assoc, exists_and_left, exists_eq_left', exists_eq_left, true_and, and_true, upd_same, upd_upd, putF_nil, putF_cons, lookup_put, lookup_nil, if_false, if_true, List.length_cons, List.length_nil, exists_eq', exists_eq, Nat.reduceAdd, Nat.reduceLT, Nat.zero_add, n_keyword_names, n_keyword_numbers, n_names_keyword, n_names_numbers, n_numbers_keyword, n_numbers_names, n_kind_text, n_kind_line, n_kind_column, n_text_kind, n_text_line, n_text_column, n_line_kind, n_line_text, n_line_column, n_column_kind, n_column_text, n_column_line]
      exact ⟨twiceR, by rw [str_twice], _, rfl, _, rfl, by decide, by omega, by omega, (kN _ _ _ (if_pos h20)).to s2 ⟨_, hC2.ob⟩ ⟨_, hC2.nm⟩⟩
    · rw [if_neg (by omega)]
      simp only [h20, if_false] at kY kN
      refine ⟨Nat.zero_le _, fun q hq => ?_⟩
      have s3 : Same2 c l H2 (upd H2 q (.lst [])) := Same2.of (same_new hq)
      have hqc : q ≠ c := fun e => by rw [e, hC2.ob] at hq; cases hq
      have hql : q ≠ l := fun e => by rw [e, hC2.nm] at hq; cases hq
      have hqn : q ≠ ln' := fun e => by rw [e, W2.nl] at hq; cases hq
      have hC3 : CheckAt CK (upd H2 q (.lst [])) c dx l ⟨k.period, k.names, k.starts, k.ranks + 1⟩ := ⟨by rw [upd_ne hqc.symm]; exact hC2.ob, by rw [upd_ne hql.symm]; exact hC2.nm⟩
      have hln : ln' ≠ c := ne_of W2.nl hC2.ob (by intro z; cases z)
      obtain hac := chk_stm_ne hC2 W2.ob
      have hob3 : upd H2 q (.lst []) a = some (.ins CT dq' [("keyword", .ref kk'), ("names", .ref ln'), ("numbers", .ref lm')]) := by
        rw [upd_ne (fun e => by rw [← e, W2.ob] at hq; cases hq)]
        exact W2.ob
      refine ⟨_, rfl, a, CT, dq', _, _, rfl, hob3, TS.cl, TS.n2, by simp only [V.ref.injEq, V.int.injEq, V.str.injEq, List.cons.injEq, Option.some.injEq, HO.ins.injEq, and_assoc, exists_and_left, exists_eq_left', exists_eq_left, true_and, and_true, upd_same, upd_upd, putF_nil, putF_cons, lookup_put, lookup_nil, if_false, if_true, List.length_cons, List.length_nil, exists_eq', exists_eq, Nat.reduceAdd, Nat.reduceLT, Nat.zero_add, n_keyword_names, n_keyword_numbers, n_names_keyword, n_names_numbers, n_numbers_keyword, n_numbers_names], ln', rfl, ⟨_, SqL.of (by rw [upd_ne hqn.symm]; exact W2.nl)⟩, ?_⟩
      refine for_it (walk_list (xs := nas'.map V.ref)) (IRnk CK c dx l a q ⟨k.period, k.names, k.starts, k.ranks + 1⟩ s H2) ⟨[], none, rfl, s3, hC3, upd_same, Nat.zero_le _, rfl⟩ (fun i σ H' _ h => ?_) ?_ ?_
      · obtain ⟨_, _, _, s4, _⟩ := h
        exact SqL.of (s4 _ _ hln g1 W2.nl)
      · rintro i x σ H4 H5 hi ⟨seen, v, rfl, s4, hC4, hQ, hsl, e1⟩ ⟨rfl, ex⟩
        rw [List.length_map, W2.ne.1] at hi
        obtain ⟨ta, hta, hT⟩ := W2.ne.get hi
        have ex' : x = V.ref ta := by
          rw [List.getElem?_map, hta] at ex
          exact (Option.some.inj ex).symm
        subst ex'
        have hT2 := chk_tok hC2 s4 hT
        have hB := (hG.nm _ (List.getElem_mem hi)).1.b
        have hb1 := hB.1
        have hb2 := hB.2.1
        rw [List.drop_eq_getElem_cons hi, rankC] at e1
        obtain ⟨dy, hy⟩ := id hT2
        walk_at "rd"
        simp only [hC4.ob, V.ref.injEq, V.int.injEq, V.str.injEq, List.cons.injEq, Option.some.injEq, HO.ins.injEq, and_assoc, exists_and_left, exists_eq_left', exists_eq_left, true_and, and_true, upd_same, upd_upd, putF_nil, putF_cons, lookup_put, lookup_nil, if_false, if_true, List.length_cons, List.length_nil, exists_eq', exists_eq, Nat.reduceAdd, Nat.reduceLT, Nat.zero_add, n_period_names, n_period_starts, n_period_ranks, n_names_period, n_names_starts, n_names_ranks, n_starts_period, n_starts_names, n_starts_ranks, n_ranks_period, n_ranks_names, n_ranks_starts, n_check_period, n_check_names, n_check_starts, n_check_ranks, n_check_valves_period, n_check_valves_names, n_check_valves_starts, n_check_valves_ranks, n_check_start_period, n_check_start_names, n_check_start_starts, n_check_start_ranks, n_check_pause_period, n_check_pause_names, n_check_pause_starts, n_check_pause_ranks, n_check_rank_period, n_check_rank_names, n_check_rank_starts, n_check_rank_ranks, n_check_known_period, n_check_known_names, n_check_known_starts, n_check_known_ranks]
        refine ⟨c, dx, l, ta, _, _, rfl, hC4, hT2, hB, fun hk => ?_, fun r x y he => ?_⟩
        · rw [hk] at e1
          dsimp only at e1
          simp only [hy, TK.cl, TK.n1, TK.n2, TK.n3, TK.n4, V.ref.injEq, V.int.injEq, V.str.injEq, List.cons.injEq, Option.some.injEq, HO.ins.injEq, and_assoc, exists_and_left, exists_eq_left', exists_eq_left, true_and, and_true, upd_same, upd_upd, putF_nil, putF_cons, lookup_put, lookup_nil, if_false, if_true, List.length_cons, List.length_nil, exists_eq', exists_eq, Nat.reduceAdd, Nat.reduceLT, Nat.zero_add, n_kind_text, n_kind_line, n_kind_column, n_text_kind, n_text_line, n_text_column, n_line_kind, n_line_text, n_line_column, n_column_kind, n_column_text, n_column_line]
          refine ⟨q, _, rfl, .inl (SqL.of hQ), rfl, flat_strs _, _, rfl, ?_⟩
          rw [inV_strs]
          simp only [Bool.false_eq_true, if_false, decide_eq_true_eq]
          by_cases h : s.names[i].text ∈ seen
          · rw [if_pos h] at e1
            rw [if_pos h]
            simp only [hy, TK.cl, TK.n1, TK.n2, TK.n3, TK.n4, V.ref.injEq, V.int.injEq, V.str.injEq, List.cons.injEq, Option.some.injEq, HO.ins.injEq, and_assoc, exists_and_left, exists_eq_left', exists_eq_left, true_and, and_true, upd_same, upd_upd, putF_nil, putF_cons, lookup_put, lookup_nil, if_false, if_true, List.length_cons, List.length_nil, exists_eq', exists_eq, Nat.reduceAdd, Nat.reduceLT, Nat.zero_add, n_kind_text, n_kind_line, n_kind_column, n_text_kind, n_text_line, n_text_column, n_line_kind, n_line_text, n_line_column, n_column_kind, n_column_text, n_column_line]
            exact ⟨rankK, by rw [str_rank], _, rfl, _, rfl, by decide, by omega, by omega, (kN _ _ _ (by rw [e1]; rfl)).to (s2.trans s4) ⟨_, hC4.ob⟩ ⟨_, hC4.nm⟩⟩
          · rw [if_neg h] at e1
            rw [if_neg h]
            simp only [hy, TK.cl, TK.n1, TK.n2, TK.n3, TK.n4, V.ref.injEq, V.int.injEq, V.str.injEq, List.cons.injEq, Option.some.injEq, HO.ins.injEq, and_assoc, exists_and_left, exists_eq_left', exists_eq_left, true_and, and_true, upd_same, upd_upd, putF_nil, putF_cons, lookup_put, lookup_nil, if_false, if_true, List.length_cons, List.length_nil, exists_eq', exists_eq, Nat.reduceAdd, Nat.reduceLT, Nat.zero_add, n_kind_text, n_kind_line, n_kind_column, n_text_kind, n_text_line, n_text_column, n_line_kind, n_line_text, n_line_column, n_column_kind, n_column_text, n_column_line]
            refine ⟨tyV_lst hQ, _, hQ, line_lt (show (seen.map fun n => V.str (S n)).length ≤ 100000 by rw [List.length_map]; omega), ?_⟩
            refine ⟨seen ++ [s.names[i].text], _, rfl, ?_, ⟨by rw [upd_ne hqc.symm]; exact hC4.ob, by rw [upd_ne hql.symm]; exact hC4.nm⟩, by rw [upd_same]; simp, by simp; omega, e1⟩
            intro b o h1 h2 hb
            rw [upd_ne (ne_of_none hb hq)]
            exact s4 b o h1 h2 hb
        · rw [he] at e1
          exact (kN _ _ _ (by rw [e1])).to (s2.trans s4) ⟨_, hC4.ob⟩ ⟨_, hC4.nm⟩
      · rintro σ H4 ⟨seen, v, rfl, s4, hC4, hQ, hsl, e1⟩
        rw [List.length_map, W2.ne.1, List.drop_length, rankC] at e1
        exact kY _ (by rw [e1]) H4 (s2.trans s4) hC4
theorem sc_Checker_check : FnScope ["self", "statement", "word"] ["self", "statement"] (defScope s_Checker_check) := ⟨rfl, rfl, rfl, by decide +kernel, rfl, by decide +kernel, by decide +kernel⟩
theorem ok_Checker_check {f C CT CK CS CC : Addr} {fd : FuncData} (F : Fun K "check" "Checker.check" s_Checker_check f fd) (T : TopF w K mg) (TK : CToken K C) (T_Checker : CChecker K CK) (TS : CStatement K CT)
    (D__limited : DF P w K mg base (L2.CX P w) 6 "_limited" ["token", "low", "high", "reason"] (sp__limited C CC))
    (D_Checker_check_valves : DM P w K mg base (L2.CX P w) 6 CK "check_valves" ["self", "statement"] (spChk C CT CK CC valvesS (fun _ => True)))
    (D_Checker_check_start : DM P w K mg base (L2.CX P w) 8 CK "check_start" ["self", "statement"] (spChk C CT CK CC startC (fun s => s.key.text = startK)))
    (D_Checker_check_pause : DM P w K mg base (L2.CX P w) 8 CK "check_pause" ["self", "statement"] (spChk C CT CK CC pauseC (fun s => s.key.text = pauseK)))
    (D_Checker_check_rank : DM P w K mg base (L2.CX P w) 8 CK "check_rank" ["self", "statement"] (spChk C CT CK CC rankS (fun s => s.key.text = rankK))) :
    FnOk P w K mg base (L2.CX P w) 10 f fd ["self", "statement"] (spChk C CT CK CC checkC (fun s => s.key.text ∈ formsL.map (·.1))) := by
  refine F.okX sc_Checker_check (fun vs H Q E h => ?_) (fun cdv A outer s H vs Q E hr h => ?_)
  · obtain ⟨c, dx, l, a, k, s, rfl, _⟩ := h
    rfl
  · obtain ⟨c, dx, l, a, k, s, rfl, hC, hS, hG, hkey, hn8, hst, hlen, kY, kN⟩ := h
    refine ⟨_, (pss_cons (ps_set (i := 2) sc_Checker_check.nd rfl (Or.inl rfl) (pe_fld (pe_fld (pv 1) rfl) rfl))
      (pss_one (ps_if (pt_cmpR op_eq (pv 2) pe_str (nomark _)) (pss_one (ps_fld (pv 0) (pe_call D__limited.G (hr.mono (by decide)) rfl D__limited.mg D__limited.kp D__limited.b .nil (passes_call (takes_of rfl rfl rfl rfl) fun _ _ _ _ z => z) (pa_cons (pe_ix ix_list (pe_fld (pv 1) rfl) pe_int (fun _ _ => rfl)) (pa_cons pe_int (pa_cons (pe_glob (v := .int 60) rfl T.g_MOST_TICKS.choose_spec ⟨_, rfl⟩) (pa_cons pe_str pa_nil))))) rfl)) (pss_one (ps_if (pt_cmpR op_eq (pv 2) pe_str (nomark _)) (pss_one (ps_expr (pe_call D__limited.G (hr.mono (by decide)) rfl D__limited.mg D__limited.kp D__limited.b .nil (passes_call (takes_of rfl rfl rfl rfl) fun _ _ _ _ z => z) (pa_cons (pe_ix ix_list (pe_fld (pv 1) rfl) pe_int (fun _ _ => rfl)) (pa_cons pe_int (pa_cons (pe_glob (v := .int 9) rfl T.g_MOST_OPEN.choose_spec ⟨_, rfl⟩) (pa_cons pe_str pa_nil))))))) (pss_one (ps_if (pt_cmpR op_eq (pv 2) pe_str (nomark _)) (pss_one (ps_expr (pe_meth (pv 0) T_Checker.cl D_Checker_check_valves.m D_Checker_check_valves.G (hr.mono (by decide)) D_Checker_check_valves.b .nil (passes_call (takes_of rfl rfl rfl rfl) fun _ _ _ _ z => z) (pa_cons (pv 1) pa_nil)))) (pss_one (ps_if (pt_cmpR op_eq (pv 2) pe_str (nomark _)) (pss_one (ps_expr (pe_meth (pv 0) T_Checker.cl D_Checker_check_start.m D_Checker_check_start.G (hr.mono (by decide)) D_Checker_check_start.b .nil (passes_call (takes_of rfl rfl rfl rfl) fun _ _ _ _ z => z) (pa_cons (pv 1) pa_nil)))) (pss_one (ps_if (pt_cmpR op_eq (pv 2) pe_str (nomark _)) (pss_one (ps_expr (pe_meth (pv 0) T_Checker.cl D_Checker_check_pause.m D_Checker_check_pause.G (hr.mono (by decide)) D_Checker_check_pause.b .nil (passes_call (takes_of rfl rfl rfl rfl) fun _ _ _ _ z => z) (pa_cons (pv 1) pa_nil)))) (pss_one (ps_expr (pe_meth (pv 0) T_Checker.cl D_Checker_check_rank.m D_Checker_check_rank.G (hr.mono (by decide)) D_Checker_check_rank.b .nil (passes_call (takes_of rfl rfl rfl rfl) fun _ _ _ _ z => z) (pa_cons (pv 1) pa_nil))))))))))))))), ?_⟩
    obtain ⟨dq, kk, ln, lm, nas, mas, W, f1, f2⟩ := id hS
    obtain ⟨dy, hy⟩ := W.ke
    have hlc : l ≠ c := ne_of hC.nm hC.ob (by intro z; cases z)
    walk_at "rd"
    simp only [W.ob, hy, TS.cl, TS.n1, TK.cl, TK.n2, V.ref.injEq, V.int.injEq, V.str.injEq, List.cons.injEq, Option.some.injEq, HO.ins.injEq, and_assoc, exists_and_left, exists_eq_left', exists_eq_left, true_and, and_true, upd_same, upd_upd, putF_nil, putF_cons, lookup_put, lookup_nil, if_false, if_true, List.length_cons, List.length_nil, exists_eq', exists_eq, Nat.reduceAdd, Nat.reduceLT, Nat.zero_add, n_keyword_names, n_keyword_numbers, n_names_keyword, n_names_numbers, n_numbers_keyword, n_numbers_names, n_kind_text, n_kind_line, n_kind_column, n_text_kind, n_text_line, n_text_column, n_line_kind, n_line_text, n_line_column, n_column_kind, n_column_text, n_column_line]
    walk_at "rd"
    unfold checkC at kY kN
    have d1 : (S s.key.text = Str.ofString "round") ↔ s.key.text = roundK := by rw [str_round, S_eq]
    have d2 : (S s.key.text = Str.ofString "open") ↔ s.key.text = openK := by rw [str_open, S_eq]
    have d3 : (S s.key.text = Str.ofString "valves") ↔ s.key.text = valvesK := by rw [str_valves, S_eq]
    have d4 : (S s.key.text = Str.ofString "start") ↔ s.key.text = startK := by rw [str_start, S_eq]
    have d5 : (S s.key.text = Str.ofString "pause") ↔ s.key.text = pauseK := by rw [str_pause, S_eq]
    have num1 : s.key.text = roundK ∨ s.key.text = openK → ∃ (t : WTok) (b : Addr), s.numbers = [t] ∧ mas = [b] ∧ TokAt C H b t ∧ NumTok t ∧ BTok t := by
      intro hh
      have q2 := hG.l1 hh
      have WM := W.me
      have hG2 := hG.nu
      obtain ⟨t, ht⟩ : ∃ t, s.numbers = [t] := by
        match hz : s.numbers, q2 with
        | [t], _ => exact ⟨t, rfl⟩
      rw [ht] at WM hG2
      obtain ⟨b, hb⟩ : ∃ x, mas = [x] := by
        have := WM.1
        match hz : mas, this with
        | [x], _ => exact ⟨x, rfl⟩
      have e2 := hG2 t (by simp)
      exact ⟨t, b, ht, hb, WM.2 0 _ _ (by rw [hb]; rfl) rfl, e2.1.nu e2.2, e2.1.b⟩
    by_cases g1 : s.key.text = roundK
    · rw [if_pos (d1.mpr g1)]
      obtain ⟨t, b, ht, hb, hT, hN, hB⟩ := num1 (.inl g1)
      simp only [g1, if_true, ht] at kY kN
      simp only [W.ob, TS.cl, TS.n3, V.ref.injEq, V.int.injEq, V.str.injEq, List.cons.injEq, Option.some.injEq, HO.ins.injEq, and_assoc, exists_and_left, exists_eq_left', exists_eq_left, true_and, and_true, upd_same, upd_upd, putF_nil, putF_cons, lookup_put, lookup_nil, if_false, if_true, List.length_cons, List.length_nil, exists_eq', exists_eq, Nat.reduceAdd, Nat.reduceLT, Nat.zero_add, n_keyword_names, n_keyword_numbers, n_names_keyword, n_names_numbers, n_numbers_keyword, n_numbers_names]
      refine ⟨_, SqL.of W.ml, V.ref b, atI_nat (j := 0) (by rw [hb]; rfl), ?_⟩
      refine ⟨b, t, 1, 60, roundK, by rw [str_round], hT, hN, hB, by decide, fun v hv => ?_, fun r x y he => ?_⟩
      · rw [hv] at kY
        simp only [hC.ob, T_Checker.cl, T_Checker.n1, V.ref.injEq, V.int.injEq, V.str.injEq, List.cons.injEq, Option.some.injEq, HO.ins.injEq, and_assoc, exists_and_left, exists_eq_left', exists_eq_left, true_and, and_true, upd_same, upd_upd, putF_nil, putF_cons, lookup_put, lookup_nil, if_false, if_true, List.length_cons, List.length_nil, exists_eq', exists_eq, Nat.reduceAdd, Nat.reduceLT, Nat.zero_add, n_period_names, n_period_starts, n_period_ranks, n_names_period, n_names_starts, n_names_ranks, n_starts_period, n_starts_names, n_starts_ranks, n_ranks_period, n_ranks_names, n_ranks_starts, n_check_period, n_check_names, n_check_starts, n_check_ranks, n_check_valves_period, n_check_valves_names, n_check_valves_starts, n_check_valves_ranks, n_check_start_period, n_check_start_names, n_check_start_starts, n_check_start_ranks, n_check_pause_period, n_check_pause_names, n_check_pause_starts, n_check_pause_ranks, n_check_rank_period, n_check_rank_names, n_check_rank_starts, n_check_rank_ranks, n_check_known_period, n_check_known_names, n_check_known_starts, n_check_known_ranks]
        exact kY _ rfl _ (Same2.refl H).upd1 ⟨upd_same, by rw [upd_ne hlc]; exact hC.nm⟩
      · rw [he] at kN
        exact (kN _ _ _ rfl).to (Same2.refl H) ⟨_, hC.ob⟩ ⟨_, hC.nm⟩
    rw [if_neg (mt d1.mp g1)]
    simp only [g1, if_false] at kY kN
    by_cases g2 : s.key.text = openK
    · rw [if_pos (d2.mpr g2)]
      obtain ⟨t, b, ht, hb, hT, hN, hB⟩ := num1 (.inr g2)
      simp only [g2, if_true, ht] at kY kN
      simp only [W.ob, TS.cl, TS.n3, V.ref.injEq, V.int.injEq, V.str.injEq, List.cons.injEq, Option.some.injEq, HO.ins.injEq, and_assoc, exists_and_left, exists_eq_left', exists_eq_left, true_and, and_true, upd_same, upd_upd, putF_nil, putF_cons, lookup_put, lookup_nil, if_false, if_true, List.length_cons, List.length_nil, exists_eq', exists_eq, Nat.reduceAdd, Nat.reduceLT, Nat.zero_add, n_keyword_names, n_keyword_numbers, n_names_keyword, n_names_numbers, n_numbers_keyword, n_numbers_names]
      refine ⟨_, SqL.of W.ml, V.ref b, atI_nat (j := 0) (by rw [hb]; rfl), ?_⟩
      refine ⟨b, t, 1, 9, openK, by rw [str_open], hT, hN, hB, by decide, fun v hv => ?_, fun r x y he => ?_⟩
      · rw [hv] at kY
        exact kY _ rfl _ (Same2.refl H) hC
      · rw [he] at kN
        exact (kN _ _ _ rfl).to (Same2.refl H) ⟨_, hC.ob⟩ ⟨_, hC.nm⟩
    rw [if_neg (mt d2.mp g2)]
    simp only [g2, if_false] at kY kN
    by_cases g3 : s.key.text = valvesK
    · rw [if_pos (d3.mpr g3)]
      simp only [g3, if_true] at kY kN
      simp only [hC.ob, V.ref.injEq, V.int.injEq, V.str.injEq, List.cons.injEq, Option.some.injEq, HO.ins.injEq, and_assoc, exists_and_left, exists_eq_left', exists_eq_left, true_and, and_true, upd_same, upd_upd, putF_nil, putF_cons, lookup_put, lookup_nil, if_false, if_true, List.length_cons, List.length_nil, exists_eq', exists_eq, Nat.reduceAdd, Nat.reduceLT, Nat.zero_add, n_period_names, n_period_starts, n_period_ranks, n_names_period, n_names_starts, n_names_ranks, n_starts_period, n_starts_names, n_starts_ranks, n_ranks_period, n_ranks_names, n_ranks_starts, n_check_period, n_check_names, n_check_starts, n_check_ranks, n_check_valves_period, n_check_valves_names, n_check_valves_starts, n_check_valves_ranks, n_check_start_period, n_check_start_names, n_check_start_starts, n_check_start_ranks, n_check_pause_period, n_check_pause_names, n_check_pause_starts, n_check_pause_ranks, n_check_rank_period, n_check_rank_names, n_check_rank_starts, n_check_rank_ranks, n_check_known_period, n_check_known_names, n_check_known_starts, n_check_known_ranks]
      exact ⟨c, dx, l, a, k, s, rfl, hC, hS, hG, trivial, hn8, hst, hlen, kY, kN⟩
    rw [if_neg (mt d3.mp g3)]
    simp only [g3, if_false] at kY kN
    by_cases g4 : s.key.text = startK
    · rw [if_pos (d4.mpr g4)]
      simp only [g4, if_true] at kY kN
      simp only [hC.ob, V.ref.injEq, V.int.injEq, V.str.injEq, List.cons.injEq, Option.some.injEq, HO.ins.injEq, and_assoc, exists_and_left, exists_eq_left', exists_eq_left, true_and, and_true, upd_same, upd_upd, putF_nil, putF_cons, lookup_put, lookup_nil, if_false, if_true, List.length_cons, List.length_nil, exists_eq', exists_eq, Nat.reduceAdd, Nat.reduceLT, Nat.zero_add, n_period_names, n_period_starts, n_period_ranks, n_names_period, n_names_starts, n_names_ranks, n_starts_period, n_starts_names, n_starts_ranks, n_ranks_period, n_ranks_names, n_ranks_starts, n_check_period, n_check_names, n_check_starts, n_check_ranks, n_check_valves_period, n_check_valves_names, n_check_valves_starts, n_check_valves_ranks, n_check_start_period, n_check_start_names, n_check_start_starts, n_check_start_ranks, n_check_pause_period, n_check_pause_names, n_check_pause_starts, n_check_pause_ranks, n_check_rank_period, n_check_rank_names, n_check_rank_starts, n_check_rank_ranks, n_check_known_period, n_check_known_names, n_check_known_starts, n_check_known_ranks]
      exact ⟨c, dx, l, a, k, s, rfl, hC, hS, hG, g4, hn8, hst, hlen, kY, kN⟩
    rw [if_neg (mt d4.mp g4)]
    simp only [g4, if_false] at kY kN
    by_cases g5 : s.key.text = pauseK
    · rw [if_pos (d5.mpr g5)]
      simp only [g5, if_true] at kY kN
      simp only [hC.ob, V.ref.injEq, V.int.injEq, V.str.injEq, List.cons.injEq, Option.some.injEq, HO.ins.injEq, and_assoc, exists_and_left, exists_eq_left', exists_eq_left, true_and, and_true, upd_same, upd_upd, putF_nil, putF_cons, lookup_put, lookup_nil, if_false, if_true, List.length_cons, List.length_nil, exists_eq', exists_eq, Nat.reduceAdd, Nat.reduceLT, Nat.zero_add, n_period_names, n_period_starts, n_period_ranks, n_names_period, n_names_starts, n_names_ranks, n_starts_period, n_starts_names, n_starts_ranks, n_ranks_period, n_ranks_names, n_ranks_starts, n_check_period, n_check_names, n_check_starts, n_check_ranks, n_check_valves_period, n_check_valves_names, n_check_valves_starts, n_check_valves_ranks, n_check_start_period, n_check_start_names, n_check_start_starts, n_check_start_ranks, n_check_pause_period, n_check_pause_names, n_check_pause_starts, n_check_pause_ranks, n_check_rank_period, n_check_rank_names, n_check_rank_starts, n_check_rank_ranks, n_check_known_period, n_check_known_names, n_check_known_starts, n_check_known_ranks]
      exact ⟨c, dx, l, a, k, s, rfl, hC, hS, hG, g5, hn8, hst, hlen, kY, kN⟩
    rw [if_neg (mt d5.mp g5)]
    simp only [g5, if_false] at kY kN
    simp only [hC.ob, V.ref.injEq, V.int.injEq, V.str.injEq, List.cons.injEq, Option.some.injEq, HO.ins.injEq, and_assoc, exists_and_left, exists_eq_left', exists_eq_left, true_and, and_true, upd_same, upd_upd, putF_nil, putF_cons, lookup_put, lookup_nil, if_false, if_true, List.length_cons, List.length_nil, exists_eq', exists_eq, Nat.reduceAdd, Nat.reduceLT, Nat.zero_add, n_period_names, n_period_starts, n_period_ranks, n_names_period, n_names_starts, n_names_ranks, n_starts_period, n_starts_names, n_starts_ranks, n_ranks_period, n_ranks_names, n_ranks_starts, n_check_period, n_check_names, n_check_starts, n_check_ranks, n_check_valves_period, n_check_valves_names, n_check_valves_starts, n_check_valves_ranks, n_check_start_period, n_check_start_names, n_check_start_starts, n_check_start_ranks, n_check_pause_period, n_check_pause_names, n_check_pause_starts, n_check_pause_ranks, n_check_rank_period, n_check_rank_names, n_check_rank_starts, n_check_rank_ranks, n_check_known_period, n_check_known_names, n_check_known_starts, n_check_known_ranks]
    have g6 : s.key.text = rankK := by
      have hk := hkey
      simp only [formsL, List.map_cons, List.map_nil, List.mem_cons, List.not_mem_nil, or_false] at hk
      rcases hk with h | h | h | h | h | h
      · exact absurd h g1
      · exact absurd h g2
      · exact absurd h g3
      · exact absurd h g4
      · exact absurd h g5
      · exact h
    exact ⟨c, dx, l, a, k, s, rfl, hC, hS, hG, g6, hn8, hst, hlen, kY, kN⟩
end

end Wv
end WvC3_
section WvC4_
set_option Elab.async false
set_option linter.all false
set_option maxRecDepth 100000
set_option maxHeartbeats 4000000
namespace Wv
open PySem L2
open SX (S S_len S_inj)
local macro_rules | `(tactic| walk_at "rd") => `(tactic| (try simp only [tVar, tC, tB, tAnd, tOr, tNot, tAndV, tOrV, tNotV, tIf, tNext, tSeq, tBreak, tCont, tDrop, tRet, tRetN, tIfS, gName, gNil, gCons, gTup, gSub, tAsg, tPar, tAug, tOp, tUn, rI, rI0, rU, rEq, rNe, tTest, tFld, tNil, tCons, tTup, tLst, tCB, tNoPart, tPart, tSl, rIxL, rIxT, rIxS, rSlL, rSlS, tBM0, tBM, rAppend, rExtend, rCat, rRep, rSetL, tM0, tM1, tCall, tMeth, tMake, sFld, sFldAug, rAdd, rSub, ipI, tBM0,
  scal_ss, scal_ii, scal_bb, scal_ns, scal_sn, scal_nn, tyV_str, L2.start, List.map_cons, List.map_nil, List.length_cons, List.length_nil, List.replicate, List.cons_append, List.nil_append, List.append_nil, List.getElem?_cons_zero, List.getElem?_cons_succ, List.set_cons_zero, List.set_cons_succ, Nat.reduceAdd, Nat.reduceSub, Nat.zero_add, Nat.sub_self, Nat.add_one_sub_one,
  Option.some.injEq, exists_eq_left, exists_eq_left', exists_eq', exists_eq, V.int.injEq, V.str.injEq, V.ref.injEq, V.bl.injEq, reduceCtorEq, List.cons.injEq, and_true, true_and, exists_and_left, exists_and_right, and_assoc, decide_true, decide_false, if_true, if_false, ite_true, ite_false, Bool.false_eq_true, Bool.true_eq_false, eq_self_iff_true, cx_K, nox_K, tMkSyn, tMkChk, tYes, bne, ne_eq, not_false_eq_true, not_true_eq_false, Bool.not_true, Bool.not_false, decide_eq_true_eq, Bool.not_eq_true', decide_eq_false_iff_not]))
theorem EChk.to2 {CC c l : Addr} {H H' : Hp} {E : XK} {r : List Nat} {x y : Nat} (h : EChk CC H E r x y) (s : Same H H') (hc : H c = none) (hl : H l = none) : EChk2 CC c l H' E r x y := fun d fs H2 hd s1 => h d fs H2 (s.free hd) (Same2.same s hc hl s1)
theorem valvesC_len : ∀ (ts : List WTok) (ns ms : List (List Nat)), valvesC ts ns = .ok ms → ns.length ≤ 8 → ms.length ≤ 8
  | [], ns, ms, h, hn => by cases h; exact hn
  | t :: r, ns, ms, h, hn => by
    unfold valvesC at h
    by_cases h1 : t.text ∈ ns
    · rw [if_pos h1] at h; cases h
    · rw [if_neg h1] at h
      by_cases h2 : ns.length = 8
      · rw [if_pos h2] at h; cases h
      · rw [if_neg h2] at h
        exact valvesC_len r _ ms h (by simp; omega)
theorem checkC_small {k k' : Chk} {s : WStm} (h : checkC k s = .ok k') (h1 : k.names.length ≤ 8) (h2 : k.starts ≤ 20) : k'.names.length ≤ 8 ∧ k'.starts ≤ 20 := by
  unfold checkC at h
  split at h
  · split at h
    · split at h
      · cases h
      · cases h; exact ⟨h1, h2⟩
    · cases h; exact ⟨h1, h2⟩
  · split at h
    · split at h
      · split at h
        · cases h
        · cases h; exact ⟨h1, h2⟩
      · cases h; exact ⟨h1, h2⟩
    · split at h
      · split at h
        · cases h
        · rename_i ns hv
          cases h
          exact ⟨valvesC_len _ _ _ hv h1, h2⟩
      · split at h
        · unfold startC at h
          split at h
          · cases h
          · rename_i h20
            split at h
            · split at h
              · cases h
              · split at h
                · cases h
                · split at h
                  · cases h
                  · cases h
                    exact ⟨h1, by show k.starts + 1 ≤ 20; omega⟩
            · cases h; exact ⟨h1, h2⟩
        · split at h
          · unfold pauseC at h
            split at h
            · split at h
              · cases h
              · split at h
                · cases h
                · cases h; exact ⟨h1, h2⟩
            · cases h; exact ⟨h1, h2⟩
          · unfold rankS at h
            split at h
            · cases h
            · split at h
              · cases h
              · cases h; exact ⟨h1, h2⟩
section
variable {P : Program} {w : World} {K : PySem.W.Frag} {mg : Str → Option Value} {base : Heap}
theorem sc_check_statements : FnScope ["statements", "checker", "statement"] ["statements"] (defScope s_check_statements) := ⟨rfl, rfl, rfl, by decide +kernel, rfl, by decide +kernel, by decide +kernel⟩
def AllGood (ss : List WStm) : Prop := ∀ s ∈ ss, GoodStm s ∧ s.key.text ∈ formsL.map (·.1) ∧ s.names.length ≤ 50000
def sp_check_statements (C CT CC : Addr) : Sp := fun vs H Q E => ∃ (sl : Addr) (ss : List WStm), vs = [.ref sl] ∧ LstAt (StmAt C CT) H sl ss ∧ AllGood ss ∧ (∀ k, checkAll ⟨0, [], 0, 0⟩ ss = .ok k → ∀ H', Same H H' → Q .non H') ∧ (∀ r x y, checkAll ⟨0, [], 0, 0⟩ ss = .error (r, x, y) → EChk CC H E r x y)
def IAll (CK : Addr) (c dx l sl : Addr) (ss : List WStm) (H2 : Hp) (i : Nat) (σ : L2.St) (H' : Hp) : Prop := ∃ (k : Chk) (v : Option V), σ = [some (.ref sl), some (.ref c), v] ∧ Same2 c l H2 H' ∧ CheckAt CK H' c dx l k ∧ k.names.length ≤ 8 ∧ k.starts ≤ 20 ∧ checkAll ⟨0, [], 0, 0⟩ ss = checkAll k (ss.drop i)
theorem ok_check_statements {f C CT CK CS CC : Addr} {fd : FuncData} (F : Fun K "check_statements" "check_statements" s_check_statements f fd) (T_Checker : CChecker K CK)
    (D_Checker : DC P w K mg base CX0 1 CK "Checker" ["self"] (sp_Checker___init__ CK)) (D_Checker_check : DM P w K mg base (L2.CX P w) 10 CK "check" ["self", "statement"] (spChk C CT CK CC checkC (fun s => s.key.text ∈ formsL.map (·.1)))) :
    FnOk P w K mg base (L2.CX P w) 11 f fd ["statements"] (sp_check_statements C CT CC) := by
  refine F.okX sc_check_statements (fun vs H Q E h => ?_) (fun cdv A outer s H vs Q E hr h => ?_)
  · obtain ⟨sl, ss, rfl, _⟩ := h
    rfl
  · obtain ⟨sl, ss, rfl, hL, hG, kY, kN⟩ := h
    refine ⟨_, (pss_cons (ps_set (i := 1) sc_check_statements.nd rfl (Or.inl rfl) (pe_make0 D_Checker.M D_Checker.G (hr.mono (by decide)) rfl D_Checker.mg D_Checker.b .nil pass0))
      (pss_one (ps_for (passes_of rfl) rfl (pi_list (pv 0)) (pg_name (i := 2) sc_check_statements.nd rfl (Or.inl rfl)) (pss_one (ps_expr (pe_meth (pv 1) T_Checker.cl D_Checker_check.m D_Checker_check.G (hr.mono (by decide)) D_Checker_check.b .nil (passes_call (takes_of rfl rfl rfl rfl) fun _ _ _ _ z => z) (pa_cons (pv 2) pa_nil))))))), ?_⟩
    obtain ⟨as, hL1, hL2⟩ := hL
    intro c dx hc hdx hne
    refine ⟨c, dx, rfl, upd_same, fun l H2 hl s1 hC => ⟨rfl, ?_⟩⟩
    have sA : Same H (upd (upd H dx (.own c)) c (.ins CK dx [])) := same_mut (same_new hdx) hc
    have s2 : Same H H2 := fun b o hb => s1 b o (ne_of_none hb hc) (sA b o hb)
    have hl0 : H l = none := sA.free hl
    have hslc : sl ≠ c := fun e => by rw [e, hc] at hL1; cases hL1
    refine ⟨_, rfl, sl, rfl, ⟨_, SqL.of (s2 _ _ hL1)⟩, ?_⟩
    have lift0 : ∀ a s, StmAt C CT H a s → StmX C CT l H2 a s := by
      intro a s ⟨dq, k, ln, lm, ns, ms, W⟩
      exact ⟨dq, k, ln, lm, ns, ms, ⟨s2 _ _ W.ob, W.ke.mono s2, s2 _ _ W.nl, W.ne.imp fun _ _ h => h.mono s2, s2 _ _ W.ml, W.me.imp fun _ _ h => h.mono s2, W.d⟩, ne_of_none W.nl hl0, ne_of_none W.ml hl0⟩
    have hsl2 : sl ≠ c ∧ sl ≠ l := ⟨hslc, ne_of_none hL1 hl0⟩
    refine for_it (walk_list (xs := as.map V.ref)) (IAll CK c dx l sl ss H2) ⟨⟨0, [], 0, 0⟩, none, rfl, Same2.refl H2, hC, Nat.zero_le _, Nat.zero_le _, rfl⟩ (fun i σ H' _ h => ?_) ?_ ?_
    · obtain ⟨_, _, _, s4, _⟩ := h
      exact SqL.of (s4 _ _ hsl2.1 hsl2.2 (s2 _ _ hL1))
    · rintro i x σ H4 H5 hi ⟨k, v, rfl, s4, hC4, h8, h20, e1⟩ ⟨rfl, ex⟩
      rw [List.length_map, hL2.1] at hi
      obtain ⟨a, ha, hS⟩ := hL2.get hi
      have ex' : x = V.ref a := by
        rw [List.getElem?_map, ha] at ex
        exact (Option.some.inj ex).symm
      subst ex'
      rw [List.drop_eq_getElem_cons hi, checkAll] at e1
      obtain ⟨g1, g2, g3⟩ := hG _ (List.getElem_mem hi)
      walk_at "rd"
      simp only [hC4.ob, V.ref.injEq, V.int.injEq, V.str.injEq, List.cons.injEq, Option.some.injEq, HO.ins.injEq, and_assoc, exists_and_left, exists_eq_left', exists_eq_left, true_and, and_true, upd_same, upd_upd, putF_nil, putF_cons, lookup_put, lookup_nil, if_false, if_true, List.length_cons, List.length_nil, exists_eq', exists_eq, Nat.reduceAdd, Nat.reduceLT, Nat.zero_add, n_period_names, n_period_starts, n_period_ranks, n_names_period, n_names_starts, n_names_ranks, n_starts_period, n_starts_names, n_starts_ranks, n_ranks_period, n_ranks_names, n_ranks_starts, n_check_period, n_check_names, n_check_starts, n_check_ranks, n_check_valves_period, n_check_valves_names, n_check_valves_starts, n_check_valves_ranks, n_check_start_period, n_check_start_names, n_check_start_starts, n_check_start_ranks, n_check_pause_period, n_check_pause_names, n_check_pause_starts, n_check_pause_ranks, n_check_rank_period, n_check_rank_names, n_check_rank_starts, n_check_rank_ranks, n_check_known_period, n_check_known_names, n_check_known_starts, n_check_known_ranks]
      refine ⟨c, dx, l, a, k, _, rfl, hC4, chk_stm hC s4 (lift0 a _ hS), g1, g2, h8, h20, g3, fun k' hk' H6 s6 hC6 => ?_, fun r x y he => ?_⟩
      · rw [hk'] at e1
        obtain ⟨q1, q2⟩ := checkC_small hk' h8 h20
        exact ⟨k', _, rfl, s4.trans s6, hC6, q1, q2, e1⟩
      · rw [he] at e1
        exact (kN r x y e1).to2 (Same2.same s2 hc hl0 s4) hc hl0
    · rintro σ H4 ⟨k, v, rfl, s4, hC4, h8, h20, e1⟩
      rw [List.length_map, hL2.1, List.drop_length, checkAll] at e1
      exact kY k e1 H4 (Same2.same s2 hc hl0 s4)
end

end Wv
end WvC4_
section WvM1_
set_option Elab.async false
set_option linter.all false
set_option maxRecDepth 100000
set_option maxHeartbeats 4000000
namespace Wv
open PySem L2
open SX (S S_len S_inj)
local macro_rules | `(tactic| walk_at "rd") => `(tactic| (try simp only [tVar, tC, tB, tAnd, tOr, tNot, tAndV, tOrV, tNotV, tIf, tNext, tSeq, tBreak, tCont, tDrop, tRet, tRetN, tIfS, gName, gNil, gCons, gTup, gSub, tAsg, tPar, tAug, tOp, tUn, rI, rI0, rU, rEq, rNe, tTest, tFld, tNil, tCons, tTup, tLst, tCB, tNoPart, tPart, tSl, rIxL, rIxT, rIxS, rSlL, rSlS, tBM0, tBM, rAppend, rExtend, rCat, rRep, rSetL, tM0, tM1, tCall, tMeth, tMake, sFld, sFldAug, rAdd, rSub, ipI, tBM0,
  scal_ss, scal_ii, scal_bb, scal_ns, scal_sn, scal_nn, tyV_str, L2.start, List.map_cons, List.map_nil, List.length_cons, List.length_nil, List.replicate, List.cons_append, List.nil_append, List.append_nil, List.getElem?_cons_zero, List.getElem?_cons_succ, List.set_cons_zero, List.set_cons_succ, Nat.reduceAdd, Nat.reduceSub, Nat.zero_add, Nat.sub_self, Nat.add_one_sub_one,
  Option.some.injEq, exists_eq_left, exists_eq_left', exists_eq', exists_eq, V.int.injEq, V.str.injEq, V.ref.injEq, V.bl.injEq, reduceCtorEq, List.cons.injEq, and_true, true_and, exists_and_left, exists_and_right, and_assoc, decide_true, decide_false, if_true, if_false, ite_true, ite_false, Bool.false_eq_true, Bool.true_eq_false, eq_self_iff_true, cx_K, nox_K, tMkSyn, tMkChk, tYes, bne, ne_eq, not_false_eq_true, not_true_eq_false, Bool.not_true, Bool.not_false, decide_eq_true_eq, Bool.not_eq_true', decide_eq_false_iff_not]))
/-! ### what a parsed text holds -/
def TokTK (t : WTok) : Prop := (t.kind = numberK → NumTok t) ∧ (t.kind ∈ keywords → t.text = t.kind) ∧ t.text.length ≤ 8
theorem run_all {al row : List Nat} {c : Nat} : ∀ x ∈ run al row c, x ∈ al := fun x hx => by
  unfold run at hx
  have key : ∀ l : List Nat, x ∈ l.takeWhile (fun x => decide (x ∈ al)) → x ∈ al := fun l => by
    induction l with
    | nil => intro h; simp at h
    | cons a l ih =>
      intro h
      rw [List.takeWhile_cons] at h
      split at h
      · rename_i ha
        rcases List.mem_cons.mp h with rfl | h
        · exact of_decide_eq_true ha
        · exact ih h
      · simp at h
  exact key _ hx
theorem tokAt_tk {row : List Nat} {ln c : Nat} {t : WTok} (h : tokAt row ln c = some t) : TokTK t := by
  unfold tokAt at h
  by_cases h1 : row[c]? = some 59
  · rw [if_pos h1] at h
    cases h
    exact ⟨fun e => absurd (show ([59] : List Nat) = numberK from e) (by decide), fun e => absurd (show ([59] : List Nat) ∈ keywords from e) (by decide), by show (1 : Nat) ≤ 8; decide⟩
  · rw [if_neg h1] at h
    by_cases h2 : run letters row c ≠ [] ∧ (run letters row c).length ≤ 8
    · rw [if_pos h2] at h
      cases h
      refine ⟨fun e => ?_, fun e => ?_, h2.2⟩
      · have e : wordKind (run letters row c) = numberK := e
        unfold wordKind at e
        split at e
        · rename_i hk
          rw [e] at hk
          exact absurd hk (by decide)
        · exact absurd e (by decide)
      · have e : wordKind (run letters row c) ∈ keywords := e
        show run letters row c = wordKind (run letters row c)
        unfold wordKind at e ⊢
        split at e
        · rename_i hk
          rw [if_pos hk]
        · exact absurd e (by decide)
    · rw [if_neg h2] at h
      cases hn : isNumber (run digits row c) with
      | false => rw [hn] at h; cases h
      | true =>
        rw [hn] at h
        cases h
        have hl2 : (run digits row c).length ≤ 2 := by
          unfold isNumber at hn
          split at hn
          · cases hn
          · rename_i hc
            exact Nat.le_of_not_lt fun z => hc (.inr z)
        refine ⟨fun _ => ⟨?_, ?_, hl2⟩, fun e => absurd (show numberK ∈ keywords from e) (by decide), Nat.le_trans hl2 (by decide)⟩
        · show (run digits row c).all _ = true
          rw [List.all_eq_true]
          intro x hx
          have := run_all x hx
          unfold digits at this
          rw [List.mem_range'_1] at this
          simp
          omega
        · intro e
          have e : run digits row c = [] := e
          rw [e] at hn
          exact absurd hn (by decide)
theorem rowFrom_tk {row : List Nat} {ln : Nat} : ∀ (f c : Nat) (ts : List WTok), rowFrom row ln f c = .ok ts → ∀ t ∈ ts, TokTK t
  | 0, c, ts, h => by
    cases h
    intro t z
    cases z
  | f + 1, c, ts, h => by
    unfold rowFrom at h
    by_cases hc : c < row.length
    · rw [if_pos hc] at h
      by_cases h32 : row[c]? = some 32
      · rw [if_pos h32] at h
        exact rowFrom_tk f _ ts h
      · rw [if_neg h32] at h
        cases e : tokAt row ln c with
        | none => rw [e] at h; cases h
        | some t =>
          rw [e] at h
          dsimp only at h
          cases e2 : rowFrom row ln f (c + t.text.length) with
          | error x => rw [e2] at h; cases h
          | ok us =>
            rw [e2] at h
            cases h
            intro u hu
            rcases List.mem_cons.mp hu with rfl | hu
            · exact tokAt_tk e
            · exact rowFrom_tk f _ us e2 u hu
    · rw [if_neg hc] at h
      cases h
      intro t z
      cases z
theorem lexFrom_tk : ∀ (rs : List (List Nat)) (ln : Nat) (ts : List WTok), lexFrom ln rs = .ok ts → ∀ t ∈ ts, TokTK t
  | [], ln, ts, h => by
    cases h
    intro t z
    cases z
  | r :: rs, ln, ts, h => by
    unfold lexFrom at h
    cases e : rowToks r ln with
    | error x => rw [e] at h; cases h
    | ok us =>
      rw [e] at h
      dsimp only at h
      cases e2 : lexFrom (ln + 1) rs with
      | error x => rw [e2] at h; cases h
      | ok vs =>
        rw [e2] at h
        cases h
        intro t ht
        rcases List.mem_append.mp ht with ht | ht
        · exact rowFrom_tk _ _ us e t ht
        · exact lexFrom_tk rs _ vs e2 t ht
theorem rowFrom_len {row : List Nat} {ln : Nat} : ∀ (f c : Nat) (ts : List WTok), rowFrom row ln f c = .ok ts → ts.length ≤ f
  | 0, c, ts, h => by
    cases h
    exact Nat.le_refl _
  | f + 1, c, ts, h => by
    unfold rowFrom at h
    by_cases hc : c < row.length
    · rw [if_pos hc] at h
      by_cases h32 : row[c]? = some 32
      · rw [if_pos h32] at h
        exact Nat.le_succ_of_le (rowFrom_len f _ ts h)
      · rw [if_neg h32] at h
        cases e : tokAt row ln c with
        | none => rw [e] at h; cases h
        | some t =>
          rw [e] at h
          dsimp only at h
          cases e2 : rowFrom row ln f (c + t.text.length) with
          | error x => rw [e2] at h; cases h
          | ok us =>
            rw [e2] at h
            cases h
            exact Nat.succ_le_succ (rowFrom_len f _ us e2)
    · rw [if_neg hc] at h
      cases h
      exact Nat.zero_le _
theorem lexFrom_len : ∀ (rs : List (List Nat)) (ln : Nat) (ts : List WTok), lexFrom ln rs = .ok ts → ts.length ≤ (rs.map List.length).sum
  | [], ln, ts, h => by
    cases h
    exact Nat.zero_le _
  | r :: rs, ln, ts, h => by
    unfold lexFrom at h
    cases e : rowToks r ln with
    | error x => rw [e] at h; cases h
    | ok us =>
      rw [e] at h
      dsimp only at h
      cases e2 : lexFrom (ln + 1) rs with
      | error x => rw [e2] at h; cases h
      | ok vs =>
        rw [e2] at h
        cases h
        have h1 := rowFrom_len _ _ us e
        have h2 := lexFrom_len rs _ vs e2
        rw [List.length_append, List.map_cons, List.sum_cons]
        omega
theorem lex_len {z : List Nat} {ts : List WTok} (h : lex z = .ok ts) : ts.length ≤ z.length + 1 := by
  have h1 := lexFrom_len _ _ ts h
  have h2 := rows_weight z
  omega
theorem lex_ok {z : List Nat} {ts : List WTok} (hz : z.length ≤ 40000) (h : lex z = .ok ts) : ∀ t ∈ ts, TokOk t := fun t ht =>
  ⟨lex_b hz h t ht, (lexFrom_tk _ _ ts h t ht).1, (lexFrom_tk _ _ ts h t ht).2.1, (lexFrom_tk _ _ ts h t ht).2.2⟩
/-- what parts add -/
structure Adds (ts : List WTok) (s s2 : WStm) (a b : List WTok) (n m : Nat) : Prop where
  ke : s2.key = s.key
  nm : s2.names = s.names ++ a
  nu : s2.numbers = s.numbers ++ b
  na : ∀ t ∈ a, t ∈ ts ∧ t.kind = nameK
  nb : ∀ t ∈ b, t ∈ ts ∧ t.kind = numberK
  le : a.length + b.length + n ≤ m
  up : m ≤ ts.length
theorem namesFrom_kind (ts : List WTok) : ∀ (f n : Nat), ∀ t ∈ namesFrom ts f n, t ∈ ts ∧ t.kind = nameK
  | 0, n, t, h => by cases h
  | f + 1, n, t, h => by
    unfold namesFrom at h
    cases e : ts[n]? with
    | none => rw [e] at h; cases h
    | some u =>
      rw [e] at h
      dsimp only at h
      split at h
      · rename_i hk
        rcases List.mem_cons.mp h with rfl | h
        · exact ⟨List.mem_of_getElem? e, hk⟩
        · exact namesFrom_kind ts f (n + 1) t h
      · cases h
theorem takePart_ok {L : Nat} {ts : List WTok} {part : List Nat} {s s2 : WStm} {n m : Nat} (h : takePart L ts part s n = .ok (s2, m)) :
    ∃ a b, Adds ts s s2 a b n m ∧ b.length = (if part = numberK then 1 else 0) ∧ (part ≠ namesK → a.length = (if part = nameK then 1 else 0)) := by
  unfold takePart at h
  by_cases h1 : part = namesK
  · rw [if_pos h1] at h
    cases e : takeNames L ts n with
    | error x => rw [e] at h; cases h
    | ok q =>
      obtain ⟨r, m1⟩ := q
      rw [e] at h
      cases h
      obtain ⟨l1, l2, l3⟩ := takeNames_le e
      refine ⟨r, [], ⟨rfl, rfl, (List.append_nil _).symm, fun t ht => ?_, fun t ht => (by cases ht), by rw [l3]; simp; omega, l2⟩, by rw [if_neg (by rw [h1]; decide)]; rfl, fun z => absurd h1 z⟩
      unfold takeNames at e
      cases e2 : takeN L ts nameK n with
      | error x => rw [e2] at e; cases e
      | ok q =>
        obtain ⟨u, m2⟩ := q
        rw [e2] at e
        cases e
        obtain ⟨_, g1, g2, _⟩ := takeN_ok e2
        rcases List.mem_cons.mp ht with rfl | ht
        · exact ⟨List.mem_of_getElem? g1, g2⟩
        · exact namesFrom_kind _ _ _ t ht
  · rw [if_neg h1] at h
    by_cases h2 : part = nameK
    · rw [if_pos h2] at h
      cases e : takeN L ts nameK n with
      | error x => rw [e] at h; cases h
      | ok q =>
        obtain ⟨u, m1⟩ := q
        rw [e] at h
        cases h
        obtain ⟨rfl, g1, g2, g3⟩ := takeN_ok e
        refine ⟨[u], [], ⟨rfl, rfl, (List.append_nil _).symm, fun t ht => ?_, fun t ht => (by cases ht), by simp; omega, g3⟩, by rw [if_neg (by rw [h2]; decide)]; rfl, fun _ => by rw [if_pos h2]; rfl⟩
        obtain rfl := List.mem_singleton.mp ht
        exact ⟨List.mem_of_getElem? g1, g2⟩
    · rw [if_neg h2] at h
      by_cases h3 : part = numberK
      · rw [if_pos h3] at h
        cases e : takeN L ts numberK n with
        | error x => rw [e] at h; cases h
        | ok q =>
          obtain ⟨u, m1⟩ := q
          rw [e] at h
          cases h
          obtain ⟨rfl, g1, g2, g3⟩ := takeN_ok e
          refine ⟨[], [u], ⟨rfl, (List.append_nil _).symm, rfl, fun t ht => (by cases ht), fun t ht => ?_, by simp; omega, g3⟩, by rw [if_pos h3]; rfl, fun _ => by rw [if_neg h2]; rfl⟩
          obtain rfl := List.mem_singleton.mp ht
          exact ⟨List.mem_of_getElem? g1, g2⟩
      · rw [if_neg h3] at h
        cases e : takeN L ts part n with
        | error x => rw [e] at h; cases h
        | ok q =>
          obtain ⟨u, m1⟩ := q
          rw [e] at h
          cases h
          obtain ⟨rfl, g1, g2, g3⟩ := takeN_ok e
          exact ⟨[], [], ⟨rfl, (List.append_nil _).symm, (List.append_nil _).symm, fun t ht => (by cases ht), fun t ht => (by cases ht), by simp, g3⟩, by rw [if_neg h3]; rfl, fun _ => by rw [if_neg h2]; rfl⟩
def cnt (k : List Nat) (ps : List (List Nat)) : Nat := (ps.filter (fun p => decide (p = k))).length
theorem takeParts_ok {L : Nat} {ts : List WTok} : ∀ {ps : List (List Nat)} {s s2 : WStm} {n m : Nat}, n ≤ ts.length → takeParts L ts ps s n = .ok (s2, m) →
    ∃ a b, Adds ts s s2 a b n m ∧ b.length = cnt numberK ps ∧ (namesK ∉ ps → a.length = cnt nameK ps)
  | [], s, s2, n, m, hn, h => by
    cases h
    exact ⟨[], [], ⟨rfl, (List.append_nil _).symm, (List.append_nil _).symm, fun t ht => (by cases ht), fun t ht => (by cases ht), by simp, hn⟩, rfl, fun _ => rfl⟩
  | p :: ps, s, s2, n, m, hn, h => by
    unfold takeParts at h
    cases e : takePart L ts p s n with
    | error x => rw [e] at h; cases h
    | ok q =>
      obtain ⟨s1, m1⟩ := q
      rw [e] at h
      obtain ⟨a1, b1, A1, x1, y1⟩ := takePart_ok e
      obtain ⟨a2, b2, A2, x2, y2⟩ := takeParts_ok A1.up h
      have l1 := A1.le
      have l2 := A2.le
      refine ⟨a1 ++ a2, b1 ++ b2, ⟨A2.ke.trans A1.ke, by rw [A2.nm, A1.nm, List.append_assoc], by rw [A2.nu, A1.nu, List.append_assoc], fun t ht => (List.mem_append.mp ht).elim (A1.na t) (A2.na t), fun t ht => (List.mem_append.mp ht).elim (A1.nb t) (A2.nb t), by rw [List.length_append, List.length_append]; omega, A2.up⟩, ?_, fun hn => ?_⟩
      · rw [List.length_append, x1, x2]
        unfold cnt
        rw [List.filter_cons]
        by_cases hp : p = numberK
        · simp [hp]; omega
        · simp [hp]
      · rw [List.length_append, y1 (fun z => hn (by rw [z]; exact List.mem_cons_self ..)), y2 (fun z => hn (List.mem_cons_of_mem _ z))]
        unfold cnt
        rw [List.filter_cons]
        by_cases hp : p = nameK
        · simp [hp]; omega
        · simp [hp]
theorem takeStm_good {L : Nat} {ts : List WTok} {word : List Nat} {n m : Nat} {s : WStm} {ps : List (List Nat)} (hT : ∀ t ∈ ts, TokOk t) (hw : word ∈ keywords) (hf : forms word = some ps) (h : takeStm L ts word n = .ok (s, m)) :
    GoodStm s ∧ s.key.text = word ∧ s.names.length ≤ ts.length ∧ n < m ∧ m ≤ ts.length := by
  unfold takeStm at h
  cases e : takeN L ts word n with
  | error x => rw [e] at h; cases h
  | ok q =>
    obtain ⟨t, m0⟩ := q
    rw [e] at h
    obtain ⟨rfl, g1, g2, g3⟩ := takeN_ok e
    rw [hf] at h
    dsimp only [Option.getD_some] at h
    cases e2 : takeParts L ts ps ⟨t, [], []⟩ (n + 1) with
    | error x => rw [e2] at h; cases h
    | ok q =>
      obtain ⟨s2, m2⟩ := q
      rw [e2] at h
      unfold stmEnd at h
      dsimp only at h
      cases e3 : takeN L ts [59] m2 with
      | error x => rw [e3] at h; cases h
      | ok q =>
        obtain ⟨u, m3⟩ := q
        rw [e3] at h
        cases h
        obtain ⟨rfl, _, _, g6⟩ := takeN_ok e3
        obtain ⟨a, b, A, hb, ha⟩ := takeParts_ok (show n + 1 ≤ ts.length from g3) e2
        have hle := A.le
        have hup := A.up
        have htm := hT t (List.mem_of_getElem? g1)
        have hke : s.key = t := A.ke
        have hnm : s.names = a := A.nm
        have hnu : s.numbers = b := A.nu
        have htx : t.text = word := by rw [htm.ke (by rw [g2]; exact hw), g2]
        refine ⟨⟨fun x hx => ?_, fun x hx => ?_, by rw [hke]; exact htm, by rw [hke, htx]; exact hw, fun hk => ?_, fun hk => ?_, fun hk => ?_⟩, by rw [hke, htx], by rw [hnm]; omega, by omega, by omega⟩
        · rw [hnm] at hx
          exact ⟨hT x (A.na x hx).1, (A.na x hx).2⟩
        · rw [hnu] at hx
          exact ⟨hT x (A.nb x hx).1, (A.nb x hx).2⟩
        · rw [hke, htx] at hk
          rw [hnu, hb]
          rcases hk with hk | hk
          · rw [hk] at hf
            obtain rfl := Option.some.inj (hf.symm.trans (show forms roundK = some [numberK] by decide))
            decide
          · rw [hk] at hf
            obtain rfl := Option.some.inj (hf.symm.trans (show forms openK = some [numberK] by decide))
            decide
        · rw [hke, htx] at hk
          rw [hk] at hf
          obtain rfl := Option.some.inj (hf.symm.trans (show forms startK = some [nameK, numberK, forK, numberK] by decide))
          exact ⟨by rw [hnm, ha (by decide)]; decide, by rw [hnu, hb]; decide⟩
        · rw [hke, htx] at hk
          rw [hk] at hf
          obtain rfl := Option.some.inj (hf.symm.trans (show forms pauseK = some [numberK, numberK] by decide))
          rw [hnu, hb]
          decide
theorem forms_mem {k : List Nat} {ps : List (List Nat)} (h : forms k = some ps) : k ∈ formsL.map (·.1) := by
  have key : ∀ l : List (List Nat × List (List Nat)), l.lookup k = some ps → k ∈ l.map (·.1) := fun l => by
    induction l with
    | nil => intro z; cases z
    | cons a r ih =>
      intro z
      rw [List.lookup] at z
      split at z
      · rename_i hb
        rw [List.map_cons, beq_iff_eq.mp hb]
        exact List.mem_cons_self ..
      · exact List.mem_cons_of_mem _ (ih z)
  exact key _ h
theorem forms_kw : ∀ k ∈ formsL.map (·.1), k ∈ keywords := by decide
theorem forms_rest : ∀ k ∈ formsL.map (·.1), k ∉ headL → k = startK ∨ k = pauseK ∨ k = rankK := by decide
def GoodN (N : Nat) (s : WStm) : Prop := GoodStm s ∧ s.key.text ∈ formsL.map (·.1) ∧ s.names.length ≤ N
theorem parseRest_good {L : Nat} {ts : List WTok} (hT : ∀ t ∈ ts, TokOk t) : ∀ (f n : Nat) (ss : List WStm), n ≤ ts.length → parseRest L ts f n = .ok ss → (∀ s ∈ ss, GoodN ts.length s ∧ (s.key.text = startK ∨ s.key.text = pauseK ∨ s.key.text = rankK)) ∧ ss.length + n ≤ ts.length
  | 0, n, ss, hn, h => by
    cases h
    exact ⟨fun s hs => (by cases hs), by simpa using hn⟩
  | f + 1, n, ss, hn, h => by
    unfold parseRest at h
    cases e : ts[n]? with
    | none =>
      rw [e] at h
      cases h
      exact ⟨fun s hs => (by cases hs), by simpa using hn⟩
    | some t =>
      rw [e] at h
      dsimp only at h
      by_cases hc : t.kind ∈ headL ∨ forms t.kind = none
      · rw [if_pos hc] at h
        cases h
      · rw [if_neg hc] at h
        obtain ⟨c1, c2⟩ := not_or.mp hc
        obtain ⟨ps, hps⟩ := Option.ne_none_iff_exists'.mp c2
        cases e2 : takeStm L ts t.kind n with
        | error x => rw [e2] at h; cases h
        | ok q =>
          obtain ⟨s, m⟩ := q
          rw [e2] at h
          dsimp only at h
          have hm := forms_mem hps
          obtain ⟨g1, g2, g3, g4, g5⟩ := takeStm_good hT (forms_kw _ hm) hps e2
          cases e3 : parseRest L ts f m with
          | error x => rw [e3] at h; cases h
          | ok r =>
            rw [e3] at h
            cases h
            obtain ⟨r1, r2⟩ := parseRest_good hT f m r g5 e3
            refine ⟨fun x hx => ?_, by rw [List.length_cons]; omega⟩
            rcases List.mem_cons.mp hx with rfl | hx
            · exact ⟨⟨g1, by rw [g2]; exact hm, g3⟩, by rw [g2]; exact forms_rest _ hm c1⟩
            · exact r1 x hx
structure Shape (ss : List WStm) (s0 s1 s2 : WStm) (rest : List WStm) : Prop where
  e : ss = s0 :: s1 :: s2 :: rest
  k0 : s0.key.text = roundK
  k1 : s1.key.text = openK
  k2 : s2.key.text = valvesK
  kr : ∀ s ∈ rest, s.key.text = startK ∨ s.key.text = pauseK ∨ s.key.text = rankK
  l : ss.length ≤ 50000
theorem parse_good {z : List Nat} {ss : List WStm} (h : parse z = .ok ss) (hz : z.length ≤ 40000) : AllGood ss ∧ ∃ s0 s1 s2 rest, Shape ss s0 s1 s2 rest := by
  unfold parse at h
  cases e : lex z with
  | error x => rw [e] at h; cases h
  | ok ts =>
    rw [e] at h
    dsimp only at h
    have hT := lex_ok hz e
    have hlen := lex_len e
    unfold parseToks at h
    cases e1 : parseHead (rowsOf z).length ts headL 0 with
    | error x => rw [e1] at h; cases h
    | ok q =>
      obtain ⟨r, n⟩ := q
      rw [e1] at h
      dsimp only at h
      unfold headL at e1
      unfold parseHead at e1
      cases t0 : takeStm (rowsOf z).length ts roundK 0 with
      | error x => rw [show takeStm (rowsOf z).length ts [114, 111, 117, 110, 100] 0 = _ from t0] at e1; cases e1
      | ok q =>
        obtain ⟨s0, m0⟩ := q
        rw [show takeStm (rowsOf z).length ts [114, 111, 117, 110, 100] 0 = _ from t0] at e1
        dsimp only at e1
        unfold parseHead at e1
        cases t1 : takeStm (rowsOf z).length ts openK m0 with
        | error x => rw [show takeStm (rowsOf z).length ts [111, 112, 101, 110] m0 = _ from t1] at e1; cases e1
        | ok q =>
          obtain ⟨s1, m1⟩ := q
          rw [show takeStm (rowsOf z).length ts [111, 112, 101, 110] m0 = _ from t1] at e1
          dsimp only at e1
          unfold parseHead at e1
          cases t2 : takeStm (rowsOf z).length ts valvesK m1 with
          | error x => rw [show takeStm (rowsOf z).length ts [118, 97, 108, 118, 101, 115] m1 = _ from t2] at e1; cases e1
          | ok q =>
            obtain ⟨s2, m2⟩ := q
            rw [show takeStm (rowsOf z).length ts [118, 97, 108, 118, 101, 115] m1 = _ from t2] at e1
            dsimp only at e1
            unfold parseHead at e1
            cases e1
            obtain ⟨a1, a2, a3, a4, a5⟩ := takeStm_good hT (show roundK ∈ keywords by decide) (show forms roundK = some [numberK] by decide) t0
            obtain ⟨b1, b2, b3, b4, b5⟩ := takeStm_good hT (show openK ∈ keywords by decide) (show forms openK = some [numberK] by decide) t1
            obtain ⟨c1, c2, c3, c4, c5⟩ := takeStm_good hT (show valvesK ∈ keywords by decide) (show forms valvesK = some [namesK] by decide) t2
            cases e2 : parseRest (rowsOf z).length ts (ts.length + 1) n with
            | error x => rw [e2] at h; cases h
            | ok rr =>
              rw [e2] at h
              cases h
              obtain ⟨r1, r2⟩ := parseRest_good hT _ n rr c5 e2
              refine ⟨fun s hs => ?_, s0, s1, s2, rr, rfl, a2, b2, c2, fun s hs => (r1 s hs).2, by simp; omega⟩
              have hs : s = s0 ∨ s = s1 ∨ s = s2 ∨ s ∈ rr := by simpa using hs
              rcases hs with rfl | rfl | rfl | hs
              · exact ⟨a1, by rw [a2]; decide, by omega⟩
              · exact ⟨b1, by rw [b2]; decide, by omega⟩
              · exact ⟨c1, by rw [c2]; decide, by omega⟩
              · obtain ⟨⟨g1, g2, g3⟩, _⟩ := r1 s hs
                exact ⟨g1, g2, by omega⟩

end Wv
end WvM1_
section WvG1_
set_option Elab.async false
set_option linter.all false
set_option maxRecDepth 100000
set_option maxHeartbeats 4000000
namespace Wv
open PySem L2
open SX (S S_len S_inj)
local macro_rules | `(tactic| walk_at "rd") => `(tactic| (try simp only [tVar, tC, tB, tAnd, tOr, tNot, tAndV, tOrV, tNotV, tIf, tNext, tSeq, tBreak, tCont, tDrop, tRet, tRetN, tIfS, gName, gNil, gCons, gTup, gSub, tAsg, tPar, tAug, tOp, tUn, rI, rI0, rU, rEq, rNe, tTest, tFld, tNil, tCons, tTup, tLst, tCB, tNoPart, tPart, tSl, rIxL, rIxT, rIxS, rSlL, rSlS, tBM0, tBM, rAppend, rExtend, rCat, rRep, rSetL, tM0, tM1, tCall, tMeth, tMake, sFld, sFldAug, rAdd, rSub, ipI, tBM0,
  scal_ss, scal_ii, scal_bb, scal_ns, scal_sn, scal_nn, tyV_str, L2.start, List.map_cons, List.map_nil, List.length_cons, List.length_nil, List.replicate, List.cons_append, List.nil_append, List.append_nil, List.getElem?_cons_zero, List.getElem?_cons_succ, List.set_cons_zero, List.set_cons_succ, Nat.reduceAdd, Nat.reduceSub, Nat.zero_add, Nat.sub_self, Nat.add_one_sub_one,
  Option.some.injEq, exists_eq_left, exists_eq_left', exists_eq', exists_eq, V.int.injEq, V.str.injEq, V.ref.injEq, V.bl.injEq, reduceCtorEq, List.cons.injEq, and_true, true_and, exists_and_left, exists_and_right, and_assoc, decide_true, decide_false, if_true, if_false, ite_true, ite_false, Bool.false_eq_true, Bool.true_eq_false, eq_self_iff_true, cx_K, nox_K, tMkSyn, tMkChk, tYes, bne, ne_eq, not_false_eq_true, not_true_eq_false, Bool.not_true, Bool.not_false, decide_eq_true_eq, Bool.not_eq_true', decide_eq_false_iff_not]))
/-! ### the garden's mirror -/
def idx (ns : List (List Nat)) (t : WTok) : Nat := ns.idxOf t.text
theorem idx_lt {ns : List (List Nat)} {t : WTok} (h : t.text ∈ ns) : idx ns t < ns.length := List.idxOf_lt_length_iff.mpr h
theorem idx_strs {ns : List (List Nat)} {t : WTok} (h : t.text ∈ ns) : (ns.map fun k => V.str (S k))[idx ns t]? = some (.str (S t.text)) ∧ eqV (.str (S t.text)) (.str (S t.text)) = true ∧
    ∀ (m : Nat) (z : V), m < idx ns t → (ns.map fun k => V.str (S k))[m]? = some z → eqV z (.str (S t.text)) = false := by
  have hl := idx_lt h
  refine ⟨?_, by simp [eqV], fun m z hm hz => ?_⟩
  · rw [List.getElem?_map, List.getElem?_eq_getElem hl]
    have e : ns[idx ns t] = t.text := List.getElem_idxOf hl
    rw [e]
    rfl
  · rw [List.getElem?_map] at hz
    have hm2 : m < ns.length := by omega
    rw [List.getElem?_eq_getElem hm2] at hz
    obtain rfl := Option.some.inj hz
    have hne : ns[m] ≠ t.text := fun e => by
      have := List.not_of_lt_findIdx (p := (· == t.text)) (xs := ns) (i := m) hm
      simp [e] at this
    show (S ns[m] == S t.text) = false
    rw [beq_eq_false_iff_ne]
    exact fun e => hne (S_inj e)
structure RestOk (ns : List (List Nat)) (period : Nat) (s : WStm) : Prop where
  g : GoodStm s
  st : s.key.text = startK → ∀ t ∈ s.names, t.text ∈ ns
  rk : s.key.text = rankK → ∀ t ∈ s.names, t.text ∈ ns
  pa : s.key.text = pauseK → ∀ a b, s.numbers = [a, b] → num a ≤ num b ∧ num b < period
  tk : s.key.text = startK → ∀ t u, s.numbers = [t, u] → num t < period ∧ num u ≤ 30
  l : s.names.length ≤ 50000
def start1 (ns : List (List Nat)) (s : WStm) : Option (Nat × Nat × Nat) := if s.key.text = startK then (match s.names, s.numbers with
  | [a], [t, u] => some (num t, idx ns a, num u)
  | _, _ => none) else none
def startsOf (ns : List (List Nat)) (ss : List WStm) : List (Nat × Nat × Nat) := ss.filterMap (start1 ns)
def vTri (x : Nat × Nat × Nat) : List V := [.int (x.1 : Nat), .int (x.2.1 : Nat), .int (x.2.2 : Nat)]
def TriAt (H : Hp) (a : Addr) (x : Nat × Nat × Nat) : Prop := H a = some (.tup (vTri x))
theorem Each.mono {α : Type} {R R' : Addr → α → Prop} {as : List Addr} {ts : List α} (h : Each R as ts) (f : ∀ a t, R a t → R' a t) : Each R' as ts := h.imp f
/-! ### comprehensions over lists -/
theorem set2 {σ : L2.St} {n : Nat} {v w : Option V} : (σ.set n v).set n w = σ.set n w := List.set_set ..
theorem lc_map {K : PySem.W.Frag} {l D : Addr} {xs ys : List V} {n : Nat} {te : TE} {σ : L2.St} {H : Hp} {Qd : Hp → Prop} (hD : H D = none) (hl : H l = some (.lst xs)) (hy : ys.length = xs.length) (hz : xs.length ≤ 100000)
    (he : ∀ (i : Nat) (x y : V) (H' : Hp) (k : VK), xs[i]? = some x → ys[i]? = some y → Same H H' → k y H' → te (σ.set n (some x)) H' k) (hq : Qd (upd H D (.lst ys))) :
    ∃ W : Nat → Nat → Hp → Prop, (∃ m, W 0 m (upd H D (.lst []))) ∧ ∀ i m H, W i m H →
      ((Itl K l).stop i H ∧ Qd H) ∨ ((Itl K l).go i H ∧ ∃ Nx : Hp → Prop, (∀ H', Nx H' → ∃ m', m' < m ∧ W (i + 1) m' H') ∧ ∀ x H', (Itl K l).yld i H x H' → gName n x (wipe σ [n]) H' fun σ2 H2 => wipe σ2 [n] = wipe σ [n] ∧ tYes σ2 H2 fun b H3 =>
        if b = true then te σ2 H3 fun y H4 => ∃ acc, H4 D = some (.lst acc) ∧ acc.length < sizeLine ∧ Nx (upd H4 D (.lst (acc ++ [y]))) else Nx H3) := by
  refine lc_list (xs := xs) (fun i H' => H' = upd H D (.lst (ys.take i))) (by simp) (fun i H' _ e => ?_) (fun i x H' hx e => ?_) (fun H' e => ?_)
  · subst e
    exact SqL.of (same_new hD _ _ hl)
  · subst e
    have hi : i < xs.length := (List.getElem?_eq_some_iff.mp hx).1
    have hyi : ys[i]? = some ys[i] := List.getElem?_eq_getElem (by omega)
    show wipe ((wipe σ [n]).set n (some x)) [n] = wipe σ [n] ∧ (te ((wipe σ [n]).set n (some x)) _ _)
    have e1 : (wipe σ [n]).set n (some x) = σ.set n (some x) := set2
    rw [e1]
    refine ⟨set2, he i x ys[i] _ _ hx hyi (same_new hD) ⟨_, upd_same, ?_, ?_⟩⟩
    · rw [List.length_take]
      exact line_lt (by omega)
    · show upd (upd H D (.lst (ys.take i))) D (.lst (ys.take i ++ [ys[i]])) = upd H D (.lst (ys.take (i + 1)))
      rw [upd_upd, List.take_add_one, hyi]
      rfl
  · subst e
    rw [← hy, List.take_length]
    exact hq
theorem toks_map {C : Addr} {H : Hp} {as : List Addr} {ts : List WTok} (h : Each (TokAt C H) as ts) {i : Nat} {x : V} (hx : (as.map V.ref)[i]? = some x) : ∃ a t, x = V.ref a ∧ ts[i]? = some t ∧ TokAt C H a t := by
  rw [List.getElem?_map] at hx
  obtain ⟨a, ha, rfl⟩ := Option.map_eq_some_iff.mp hx
  have hi : i < ts.length := by rw [← h.1]; exact (List.getElem?_eq_some_iff.mp ha).1
  exact ⟨a, ts[i], rfl, List.getElem?_eq_getElem hi, h.2 i a _ ha (List.getElem?_eq_getElem hi)⟩
/-- [int(token.text) for token in l] -/
theorem lc_nums {K : PySem.W.Frag} {C l D : Addr} {as : List Addr} {ts : List WTok} {n : Nat} {σ : L2.St} {H : Hp} {Qd : Hp → Prop} (TK : CToken K C) (hn : n < σ.length) (hD : H D = none) (hl : H l = some (.lst (as.map V.ref))) (hE : Each (TokAt C H) as ts) (hN : ∀ t ∈ ts, NumTok t) (hz : ts.length ≤ 100000) {r : List V → Hp → VK → Prop} (hr : ∀ a n H Q, PySem.intText? a = some n → a.length ≤ 640 → Q (.int n) H → r [.str a] H Q)
    (hq : Qd (upd H D (.lst (ts.map fun t => V.int (num t : Nat))))) :
    ∃ W : Nat → Nat → Hp → Prop, (∃ m, W 0 m (upd H D (.lst []))) ∧ ∀ i m H, W i m H →
      ((Itl K l).stop i H ∧ Qd H) ∨ ((Itl K l).go i H ∧ ∃ Nx : Hp → Prop, (∀ H', Nx H' → ∃ m', m' < m ∧ W (i + 1) m' H') ∧ ∀ x H', (Itl K l).yld i H x H' → gName n x (wipe σ [n]) H' fun σ2 H2 => wipe σ2 [n] = wipe σ [n] ∧ tYes σ2 H2 fun b H3 =>
        if b = true then tCB r (tCons (tFld K (tVar n) "text") tNil) σ2 H3 fun y H4 => ∃ acc, H4 D = some (.lst acc) ∧ acc.length < sizeLine ∧ Nx (upd H4 D (.lst (acc ++ [y]))) else Nx H3) := by
  refine lc_map hD hl (by rw [List.length_map, List.length_map, hE.1]) (by rw [List.length_map, hE.1]; exact hz) (fun i x y H' k hx hy s1 hk => ?_) hq
  obtain ⟨a, t, rfl, ht, ⟨dy, hT⟩⟩ := toks_map hE hx
  rw [List.getElem?_map, ht] at hy
  obtain rfl := Option.some.inj hy
  have hNt := hN t (List.mem_of_getElem? ht)
  refine ⟨_, List.getElem?_set_self hn, a, C, dy, _, _, rfl, s1 _ _ hT, TK.cl, TK.n2, ?_, hr _ _ _ _ (int_num hNt) ?_ hk⟩
  · simp only [V.ref.injEq, V.int.injEq, V.str.injEq, List.cons.injEq, Option.some.injEq, HO.ins.injEq, and_assoc, exists_and_left, exists_eq_left', exists_eq_left, true_and, and_true, upd_same, upd_upd, putF_nil, putF_cons, lookup_put, lookup_nil, if_false, if_true, List.length_cons, List.length_nil, exists_eq', exists_eq, Nat.reduceAdd, Nat.reduceLT, Nat.zero_add, n_kind_text, n_kind_line, n_kind_column, n_text_kind, n_text_line, n_text_column, n_line_kind, n_line_text, n_line_column, n_column_kind, n_column_text, n_column_line]
  · rw [S_len]
    have := hNt.2.2
    omega
section
variable {P : Program} {w : World} {K : PySem.W.Frag} {mg : Str → Option Value} {base : Heap}
theorem sc__starts : FnScope ["statements", "names", "starts", "statement", "tick", "water", "token"] ["statements", "names"] (defScope s__starts) := ⟨rfl, rfl, rfl, by decide +kernel, rfl, by decide +kernel, by decide +kernel⟩
def sp__starts (C CT : Addr) : Sp := fun vs H Q _ => ∃ (sl nl : Addr) (ss : List WStm) (ns : List (List Nat)) (period : Nat), vs = [.ref sl, .ref nl] ∧ LstAt (StmAt C CT) H sl ss ∧ H nl = some (.lst (ns.map fun n => V.str (S n))) ∧ (∀ s ∈ ss, RestOk ns period s) ∧ ss.length ≤ 50000 ∧
  ∀ p H' as, H p = none → Same H H' → H' p = some (.lst (as.map V.ref)) → Each (TriAt H') as (startsOf ns ss) → Q (.ref p) H'
def ISt (C CT sl nl q : Addr) (ss : List WStm) (ns : List (List Nat)) (H : Hp) (i : Nat) (σ : L2.St) (H' : Hp) : Prop := ∃ (as : List Addr) (v1 v2 v3 v4 : Option V), σ = [some (.ref sl), some (.ref nl), some (.ref q), v1, v2, v3, v4] ∧ Same H H' ∧ H' q = some (.lst (as.map V.ref)) ∧
  Each (TriAt H') as (startsOf ns (ss.take i)) ∧ as.length ≤ i
theorem ok__starts {f C CT : Addr} {fd : FuncData} (F : Fun K "_starts" "_starts" s__starts f fd) (T : TopF w K mg) (TK : CToken K C) (TS : CStatement K CT) : FnOk P w K mg base CX0 1 f fd ["statements", "names"] (sp__starts C CT) := by
  refine F.ok sc__starts (fun vs H Q E h => ?_) (fun cdv A outer s H vs Q E hr h => ?_)
  · obtain ⟨sl, nl, ss, ns, pd, rfl, _⟩ := h
    rfl
  · obtain ⟨sl, nl, ss, ns, pd, rfl, hL, hN, hG, hl, k⟩ := h
    refine ⟨_, (pss_cons (ps_set (i := 2) sc__starts.nd rfl (Or.inl rfl) (pe_lst pa_nil))
      (pss_cons (ps_for PassesOwn.never rfl (pi_list (pv 0)) (pg_name (i := 3) sc__starts.nd rfl (Or.inl rfl)) (pss_one (ps_if (pt_cmpR op_eq (pe_fld (pe_fld (pv 3) rfl) rfl) pe_str (nomark _)) (pss_cons (ps_asg (pe_lc (own := [("token", 6)]) (g := gName 6) (tt := tYes) (te := (tCB _ (tCons (tFld K (tVar 6) "text") tNil))) rfl sc__starts.nd (pi_list (pe_fld (pv 3) rfl)) (blkOk_by (N := ["statements", "names", "starts", "statement", "tick", "water", "token"]) (sc := defScope s__starts) (by decide +kernel)) (fun _ _ _ _ _ => (pg_name (i := 6) sc__starts.nd rfl (Or.inl rfl))) (fun _ _ _ _ _ => pts_nil) (fun _ _ _ _ _ => (pe_callTy call_int_str (by rfl) T.z_int (by decide +kernel) (pa_cons (pe_fld (pv 6) rfl) pa_nil)))) (pg_unl rfl (pgs_cons (pg_name (i := 4) sc__starts.nd rfl (Or.inl rfl)) (pgs_cons (pg_name (i := 5) sc__starts.nd rfl (Or.inl rfl)) pgs_nil))))
      (pss_one (ps_expr (pe_bm PySem.F.plainAttrs_list PySem.F.slot_list_append PySem.F.type_list_append mt_append (pv 2) (pa_cons (pe_tup (pa_cons (pv 4) (pa_cons (pe_bm PySem.F.plainAttrs_list PySem.F.slot_list_index PySem.F.type_list_index mt_index (pv 1) (pa_cons (pe_fld (pe_ix ix_list (pe_fld (pv 3) rfl) pe_int (fun _ _ => rfl)) rfl) pa_nil)) (pa_cons (pv 5) pa_nil)))) pa_nil))))) pss_nil)))
      (pss_one (ps_ret (pv 2))))), ?_⟩
    obtain ⟨sas, hL1, hL2⟩ := hL
    walk_at "rd"
    refine ⟨Nat.zero_le _, fun q hq => ?_⟩
    have s0 : Same H (upd H q (.lst [])) := same_new hq
    refine ⟨_, rfl, sl, rfl, ⟨_, SqL.of (s0 _ _ hL1)⟩, ?_⟩
    refine for_it (walk_list (xs := sas.map V.ref)) (ISt C CT sl nl q ss ns H) ⟨[], none, none, none, none, rfl, s0, upd_same, Each.nil, Nat.zero_le _⟩ (fun i σ H' _ h => ?_) ?_ ?_
    · obtain ⟨_, _, _, _, _, _, s4, _⟩ := h
      exact SqL.of (s4 _ _ hL1)
    · rintro i x σ H4 H5 hi ⟨as, v1, v2, v3, v4, rfl, s4, hQ, hE, hla⟩ ⟨rfl, ex⟩
      rw [List.length_map, hL2.1] at hi
      obtain ⟨a, ha, hS⟩ := hL2.get hi
      have ex' : x = V.ref a := by
        rw [List.getElem?_map, ha] at ex
        exact (Option.some.inj ex).symm
      subst ex'
      have hR := hG _ (List.getElem_mem hi)
      obtain ⟨dq, kk, ln, lm, nas, mas, W⟩ := hS
      obtain ⟨dy, hy⟩ := id W.ke
      have hSt := s4 _ _ W.ob
      have hKe := s4 _ _ hy
      walk_at "rd"
      simp only [hSt, hKe, TS.cl, TS.n1, TK.cl, TK.n2, V.ref.injEq, V.int.injEq, V.str.injEq, List.cons.injEq, Option.some.injEq, HO.ins.injEq, and_assoc, exists_and_left, exists_eq_left', exists_eq_left, true_and, and_true, upd_same, upd_upd, putF_nil, putF_cons, lookup_put, lookup_nil, if_false, if_true, List.length_cons, List.length_nil, exists_eq', exists_eq, Nat.reduceAdd, Nat.reduceLT, Nat.zero_add, n_keyword_names, n_keyword_numbers, n_names_keyword, n_names_numbers, n_numbers_keyword, n_numbers_names, n_kind_text, n_kind_line, n_kind_column, n_text_kind, n_text_line, n_text_column, n_line_kind, n_line_text, n_line_column, n_column_kind, n_column_text, n_column_line]
      rw [str_start]
      have hpre : startsOf ns (ss.take (i + 1)) = startsOf ns (ss.take i) ++ (start1 ns ss[i]).toList := by
        rw [List.take_add_one, List.getElem?_eq_getElem hi]
        unfold startsOf
        rw [List.filterMap_append]
        congr 1
      by_cases hk1 : ss[i].key.text = startK
      · rw [if_pos (by rw [hk1])]
        obtain ⟨hn1, hn2⟩ := hR.g.l2 hk1
        obtain ⟨t, u, hnum⟩ : ∃ t u, ss[i].numbers = [t, u] := by
          match ss[i].numbers, hn2 with
          | [t, u], _ => exact ⟨t, u, rfl⟩
        obtain ⟨m, hnam⟩ : ∃ m, ss[i].names = [m] := by
          match ss[i].names, hn1 with
          | [m], _ => exact ⟨m, rfl⟩
        have e1 : start1 ns ss[i] = some (num t, idx ns m, num u) := by
          rw [start1, if_pos hk1, hnam, hnum]
        have hm := hR.st hk1 m (by rw [hnam]; simp)
        simp only [scal_ss, true_and]
        refine ⟨_, rfl, a, CT, dq, _, _, rfl, hSt, TS.cl, TS.n3, by simp only [V.ref.injEq, V.int.injEq, V.str.injEq, List.cons.injEq, Option.some.injEq, HO.ins.injEq, and_assoc, exists_and_left, exists_eq_left', exists_eq_left, true_and, and_true, upd_same, upd_upd, putF_nil, putF_cons, lookup_put, lookup_nil, if_false, if_true, List.length_cons, List.length_nil, exists_eq', exists_eq, Nat.reduceAdd, Nat.reduceLT, Nat.zero_add, n_keyword_names, n_keyword_numbers, n_names_keyword, n_names_numbers, n_numbers_keyword, n_numbers_names], lm, rfl, ⟨_, SqL.of (s4 _ _ W.ml)⟩, fun D hD => ?_⟩
        refine lc_nums TK (by show 6 < 7; omega) hD (s4 _ _ W.ml) (W.me.imp fun _ _ h => h.mono s4) (fun t ht => (hR.g.nu t ht).1.nu (hR.g.nu t ht).2) (by omega) (fun a n H Q h1 h2 h3 => ⟨a, rfl, n, h1, h2, h3⟩) ?_
        rw [hnum]
        have s5 : Same H5 (upd H5 D (.lst ([t, u].map fun t => V.int (num t : Nat)))) := same_new hD
        have hQ5 := s5 _ _ hQ
        have hSt5 := s5 _ _ hSt
        have hN5 := s5 _ _ (s4 _ _ hN)
        have hln5 := s5 _ _ (s4 _ _ W.nl)
        have hE5 : Each (TriAt (upd H5 D (.lst ([t, u].map fun t => V.int (num t : Nat))))) as (startsOf ns (ss.take i)) := hE.imp fun _ _ h => s5 _ _ h
        have hD5 : (upd H5 D (.lst ([t, u].map fun t => V.int (num t : Nat)))) D = some (.lst ([t, u].map fun t => V.int (num t : Nat))) := upd_same
        have s6 := s4.trans s5
        generalize upd H5 D (.lst ([t, u].map fun t => V.int (num t : Nat))) = H6 at *
        refine ⟨D, _, rfl, SqL.of hD5, rfl, ?_⟩
        walk_at "rd"
        have W2 := W.ne
        rw [hnam] at W2
        obtain ⟨b, hb, dz, hTz⟩ := W2.get (i := 0) (by simp)
        have hTz := s6 _ _ hTz
        obtain ⟨x1, x2, x3⟩ := idx_strs hm
        refine ⟨tyV_lst hQ5, tyV_lst hN5, CT, dq, _, hSt5, TS.cl, TS.n2, _, by simp only [V.ref.injEq, V.int.injEq, V.str.injEq, List.cons.injEq, Option.some.injEq, HO.ins.injEq, and_assoc, exists_and_left, exists_eq_left', exists_eq_left, true_and, and_true, upd_same, upd_upd, putF_nil, putF_cons, lookup_put, lookup_nil, if_false, if_true, List.length_cons, List.length_nil, exists_eq', exists_eq, Nat.reduceAdd, Nat.reduceLT, Nat.zero_add, n_keyword_names, n_keyword_numbers, n_names_keyword, n_names_numbers, n_numbers_keyword, n_numbers_names], ln, rfl, _, SqL.of hln5, _, atI_nat (j := 0) (by rw [List.getElem?_map, hb]; rfl), b, rfl, C, dz, _, hTz, TK.cl, TK.n2, .str (S m.text), by simp only [V.ref.injEq, V.int.injEq, V.str.injEq, List.cons.injEq, Option.some.injEq, HO.ins.injEq, and_assoc, exists_and_left, exists_eq_left', exists_eq_left, true_and, and_true, upd_same, upd_upd, putF_nil, putF_cons, lookup_put, lookup_nil, if_false, if_true, List.length_cons, List.length_nil, exists_eq', exists_eq, Nat.reduceAdd, Nat.reduceLT, Nat.zero_add, n_kind_text, n_kind_line, n_kind_column, n_text_kind, n_text_line, n_text_column, n_line_kind, n_line_text, n_line_column, n_column_kind, n_column_text, n_column_line]; rfl, ?_⟩
        refine ⟨nl, _, _, idx ns m, _, rfl, rfl, SqL.of hN5, rfl, flat_strs _, x1, x2, x3, by decide +kernel, fun p hp => ?_⟩
        have hpq : p ≠ q := fun e => by rw [e, hQ5] at hp; cases hp
        refine ⟨as.map V.ref, (upd_ne hpq.symm).trans hQ5, line_lt (by rw [List.length_map]; omega), ?_⟩
        have s7 : Same H (upd (upd H6 p (.tup [.int (num t : Nat), .int (idx ns m : Nat), .int (num u : Nat)])) q (.lst (as.map V.ref ++ [.ref p]))) := same_mut (s6.trans (same_new hp)) hq
        have tne : ∀ {b : Addr} {x : Nat × Nat × Nat}, TriAt H6 b x → TriAt (upd (upd H6 p (.tup [.int (num t : Nat), .int (idx ns m : Nat), .int (num u : Nat)])) q (.lst (as.map V.ref ++ [.ref p]))) b x := fun {b x} h => by
          unfold TriAt at h ⊢
          rw [upd_ne (ne_of h hQ5 (by intro z; cases z)), upd_ne (ne_of_none h hp)]
          exact h
        refine ⟨as ++ [p], _, _, _, _, rfl, s7, by rw [upd_same]; simp, ?_, by simp; omega⟩
        rw [hpre, e1]
        refine Each.snoc (hE5.imp fun _ _ h => tne h) ?_
        show TriAt _ p _
        unfold TriAt
        rw [upd_ne hpq, upd_same]
        rfl
      · rw [if_neg (fun e => hk1 (S_inj e))]
        simp only [scal_ss, true_and]
        refine ⟨as, _, v2, v3, v4, rfl, s4, hQ, ?_, by omega⟩
        rw [hpre, start1, if_neg hk1]
        simpa using hE
    · rintro σ H4 ⟨as, v1, v2, v3, v4, rfl, s4, hQ, hE, hla⟩
      rw [List.length_map, hL2.1, List.take_length] at hE
      exact ⟨_, rfl, k q H4 as hq s4 hQ hE⟩
end

end Wv
end WvG1_
section WvG2_
set_option Elab.async false
set_option linter.all false
set_option maxRecDepth 100000
set_option maxHeartbeats 4000000
namespace Wv
open PySem L2
open SX (S S_len S_inj)
local macro_rules | `(tactic| walk_at "rd") => `(tactic| (try simp only [tVar, tC, tB, tAnd, tOr, tNot, tAndV, tOrV, tNotV, tIf, tNext, tSeq, tBreak, tCont, tDrop, tRet, tRetN, tIfS, gName, gNil, gCons, gTup, gSub, tAsg, tPar, tAug, tOp, tUn, rI, rI0, rU, rEq, rNe, tTest, tFld, tNil, tCons, tTup, tLst, tCB, tNoPart, tPart, tSl, rIxL, rIxT, rIxS, rSlL, rSlS, tBM0, tBM, rAppend, rExtend, rCat, rRep, rSetL, tM0, tM1, tCall, tMeth, tMake, sFld, sFldAug, rAdd, rSub, ipI, tBM0,
  scal_ss, scal_ii, scal_bb, scal_ns, scal_sn, scal_nn, tyV_str, L2.start, List.map_cons, List.map_nil, List.length_cons, List.length_nil, List.replicate, List.cons_append, List.nil_append, List.append_nil, List.getElem?_cons_zero, List.getElem?_cons_succ, List.set_cons_zero, List.set_cons_succ, Nat.reduceAdd, Nat.reduceSub, Nat.zero_add, Nat.sub_self, Nat.add_one_sub_one,
  Option.some.injEq, exists_eq_left, exists_eq_left', exists_eq', exists_eq, V.int.injEq, V.str.injEq, V.ref.injEq, V.bl.injEq, reduceCtorEq, List.cons.injEq, and_true, true_and, exists_and_left, exists_and_right, and_assoc, decide_true, decide_false, if_true, if_false, ite_true, ite_false, Bool.false_eq_true, Bool.true_eq_false, eq_self_iff_true, cx_K, nox_K, tMkSyn, tMkChk, tYes, bne, ne_eq, not_false_eq_true, not_true_eq_false, Bool.not_true, Bool.not_false, decide_eq_true_eq, Bool.not_eq_true', decide_eq_false_iff_not]))
def setR (d : List Bool) (a n : Nat) : List Bool := (List.range' a n).foldl (fun d i => d.set i true) d
def dry1 (d : List Bool) (s : WStm) : List Bool := if s.key.text = pauseK then (match s.numbers with
  | [a, b] => setR d (num a) (num b + 1 - num a)
  | _ => d) else d
def dryOf (period : Nat) (ss : List WStm) : List Bool := ss.foldl dry1 (List.replicate period false)
theorem setR_len : ∀ (n a : Nat) (d : List Bool), (setR d a n).length = d.length
  | 0, a, d => rfl
  | n + 1, a, d => by
    show (setR (d.set a true) (a + 1) n).length = _
    rw [setR_len n, List.length_set]
theorem setR_snoc (d : List Bool) (a n : Nat) : setR d a (n + 1) = (setR d a n).set (a + n) true := by
  unfold setR
  rw [List.range'_concat, List.foldl_append]
  simp
theorem dry1_len (d : List Bool) (s : WStm) : (dry1 d s).length = d.length := by
  unfold dry1
  split
  · split
    · exact setR_len _ _ _
    · rfl
  · rfl
theorem dryF_len (ss : List WStm) : ∀ d : List Bool, (ss.foldl dry1 d).length = d.length := by
  induction ss with
  | nil => intro d; rfl
  | cons s r ih => intro d; rw [List.foldl_cons, ih, dry1_len]
theorem repl_false : ∀ n : Nat, (List.replicate n [V.bl false]).flatten = (List.replicate n false).map V.bl
  | 0 => rfl
  | n + 1 => by rw [List.replicate_succ, List.flatten_cons, repl_false n]; rfl
section
variable {P : Program} {w : World} {K : PySem.W.Frag} {mg : Str → Option Value} {base : Heap}
theorem sc__dry : FnScope ["statements", "period", "dry", "statement", "first", "last", "token", "tick"] ["statements", "period"] (defScope s__dry) := ⟨rfl, rfl, rfl, by decide +kernel, rfl, by decide +kernel, by decide +kernel⟩
def sp__dry (C CT : Addr) : Sp := fun vs H Q _ => ∃ (sl : Addr) (ss : List WStm) (ns : List (List Nat)) (period : Nat), vs = [.ref sl, .int (period : Nat)] ∧ LstAt (StmAt C CT) H sl ss ∧ (∀ s ∈ ss, RestOk ns period s) ∧ ss.length ≤ 50000 ∧ period ≤ 60 ∧
  ∀ p H', H p = none → Same H H' → H' p = some (.lst ((dryOf period ss).map V.bl)) → Q (.ref p) H'
def IDr (sl q : Addr) (ss : List WStm) (period : Nat) (H : Hp) (i : Nat) (σ : L2.St) (H' : Hp) : Prop := ∃ (v1 v2 v3 v4 v5 : Option V), σ = [some (.ref sl), some (.int (period : Nat)), some (.ref q), v1, v2, v3, v4, v5] ∧ Same H H' ∧ H' q = some (.lst ((dryOf period (ss.take i)).map V.bl))
def IDi (sl q a : Addr) (x y : Int) (d : List Bool) (lo period : Nat) (H : Hp) (i : Nat) (σ : L2.St) (H' : Hp) : Prop := ∃ (v4 v5 : Option V), σ = [some (.ref sl), some (.int (period : Nat)), some (.ref q), some (.ref a), some (.int x), some (.int y), v4, v5] ∧ Same H H' ∧ H' q = some (.lst ((setR d lo i).map V.bl))
theorem ok__dry {f C CT : Addr} {fd : FuncData} (F : Fun K "_dry" "_dry" s__dry f fd) (T : TopF w K mg) (TK : CToken K C) (TS : CStatement K CT) : FnOk P w K mg base CX0 1 f fd ["statements", "period"] (sp__dry C CT) := by
  refine F.ok sc__dry (fun vs H Q E h => ?_) (fun cdv A outer s H vs Q E hr h => ?_)
  · obtain ⟨sl, ss, ns, pd, rfl, _⟩ := h
    rfl
  · obtain ⟨sl, ss, ns, pd, rfl, hL, hG, hl, hp60, k⟩ := h
    refine ⟨_, (pss_cons (ps_set (i := 2) sc__dry.nd rfl (Or.inl rfl) (pe_op op_rep (pe_lst (pa_cons pe_bl pa_nil)) (pv 1)))
      (pss_cons (ps_for PassesOwn.never rfl (pi_list (pv 0)) (pg_name (i := 3) sc__dry.nd rfl (Or.inl rfl)) (pss_one (ps_if (pt_cmpR op_eq (pe_fld (pe_fld (pv 3) rfl) rfl) pe_str (nomark _)) (pss_cons (ps_asg (pe_lc (own := [("token", 6)]) (g := gName 6) (tt := tYes) (te := (tCB _ (tCons (tFld K (tVar 6) "text") tNil))) rfl sc__dry.nd (pi_list (pe_fld (pv 3) rfl)) (blkOk_by (N := ["statements", "period", "dry", "statement", "first", "last", "token", "tick"]) (sc := defScope s__dry) (by decide +kernel)) (fun _ _ _ _ _ => (pg_name (i := 6) sc__dry.nd rfl (Or.inl rfl))) (fun _ _ _ _ _ => pts_nil) (fun _ _ _ _ _ => (pe_callTy call_int_str (by rfl) T.z_int (by decide +kernel) (pa_cons (pe_fld (pv 6) rfl) pa_nil)))) (pg_unl rfl (pgs_cons (pg_name (i := 4) sc__dry.nd rfl (Or.inl rfl)) (pgs_cons (pg_name (i := 5) sc__dry.nd rfl (Or.inl rfl)) pgs_nil))))
      (pss_one (ps_for PassesOwn.never rfl (pi_range2 (by rfl) T.z_range (pa_cons (pv 4) (pa_cons (pe_op op_add (pv 5) pe_int) pa_nil))) (pg_name (i := 7) sc__dry.nd rfl (Or.inl rfl)) (pss_one (ps_asg pe_bl (pg_sub (pv 2) (pv 7) set_list)))))) pss_nil)))
      (pss_one (ps_ret (pv 2))))), ?_⟩
    obtain ⟨sas, hL1, hL2⟩ := hL
    walk_at "rd"
    refine ⟨by decide +kernel, fun p0 hp0 => ⟨_, upd_same, by omega, by omega, ?_, fun q hq0 => ?_⟩⟩
    · show 1 * ((pd : Nat) : Int).toNat ≤ sizeLine
      rw [Int.toNat_natCast, Nat.one_mul]
      exact line_of (by omega)
    have hq : H q = none := by
      by_cases e : q = p0
      · rw [e]; exact hp0
      · rw [upd_ne e] at hq0; exact hq0
    have e0 : (List.replicate ((pd : Nat) : Int).toNat [V.bl false]).flatten = (dryOf pd (ss.take 0)).map V.bl := by
      rw [Int.toNat_natCast, List.take_zero]
      show _ = (List.replicate pd false).map V.bl
      exact repl_false pd
    rw [e0]
    have s0 : Same H (upd (upd H p0 (.lst [.bl false])) q (.lst ((dryOf pd (ss.take 0)).map V.bl))) := same_mut (same_new hp0) hq
    have hQ0 : (upd (upd H p0 (.lst [.bl false])) q (.lst ((dryOf pd (ss.take 0)).map V.bl))) q = some (.lst ((dryOf pd (ss.take 0)).map V.bl)) := upd_same
    generalize upd (upd H p0 (.lst [.bl false])) q (.lst ((dryOf pd (ss.take 0)).map V.bl)) = H1 at *
    refine ⟨_, rfl, sl, rfl, ⟨_, SqL.of (s0 _ _ hL1)⟩, ?_⟩
    refine for_it (walk_list (xs := sas.map V.ref)) (IDr sl q ss pd H) ⟨none, none, none, none, none, rfl, s0, hQ0⟩ (fun i σ H' _ h => ?_) ?_ ?_
    · obtain ⟨_, _, _, _, _, _, s4, _⟩ := h
      exact SqL.of (s4 _ _ hL1)
    · rintro i x σ H4 H5 hi ⟨v1, v2, v3, v4, v5, rfl, s4, hQ⟩ ⟨rfl, ex⟩
      rw [List.length_map, hL2.1] at hi
      obtain ⟨a, ha, hS⟩ := hL2.get hi
      have ex' : x = V.ref a := by
        rw [List.getElem?_map, ha] at ex
        exact (Option.some.inj ex).symm
      subst ex'
      have hR := hG _ (List.getElem_mem hi)
      obtain ⟨dq, kk, ln, lm, nas, mas, W⟩ := hS
      obtain ⟨dy, hy⟩ := id W.ke
      have hSt := s4 _ _ W.ob
      have hKe := s4 _ _ hy
      walk_at "rd"
      simp only [hSt, hKe, TS.cl, TS.n1, TK.cl, TK.n2, V.ref.injEq, V.int.injEq, V.str.injEq, List.cons.injEq, Option.some.injEq, HO.ins.injEq, and_assoc, exists_and_left, exists_eq_left', exists_eq_left, true_and, and_true, upd_same, upd_upd, putF_nil, putF_cons, lookup_put, lookup_nil, if_false, if_true, List.length_cons, List.length_nil, exists_eq', exists_eq, Nat.reduceAdd, Nat.reduceLT, Nat.zero_add, n_keyword_names, n_keyword_numbers, n_names_keyword, n_names_numbers, n_numbers_keyword, n_numbers_names, n_kind_text, n_kind_line, n_kind_column, n_text_kind, n_text_line, n_text_column, n_line_kind, n_line_text, n_line_column, n_column_kind, n_column_text, n_column_line]
      rw [str_pause]
      have hpre : dryOf pd (ss.take (i + 1)) = dry1 (dryOf pd (ss.take i)) ss[i] := by
        rw [List.take_add_one, List.getElem?_eq_getElem hi]
        unfold dryOf
        rw [List.foldl_append]
        rfl
      have hdl : (dryOf pd (ss.take i)).length = pd := by
        unfold dryOf
        rw [dryF_len, List.length_replicate]
      by_cases hk1 : ss[i].key.text = pauseK
      · rw [if_pos (by rw [hk1])]
        have hn2 := hR.g.l3 hk1
        obtain ⟨t, u, hnum⟩ : ∃ t u, ss[i].numbers = [t, u] := by
          match ss[i].numbers, hn2 with
          | [t, u], _ => exact ⟨t, u, rfl⟩
        obtain ⟨q1, q2⟩ := hR.pa hk1 t u hnum
        have e1 : dry1 (dryOf pd (ss.take i)) ss[i] = setR (dryOf pd (ss.take i)) (num t) (num u + 1 - num t) := by
          rw [dry1, if_pos hk1, hnum]
        simp only [scal_ss, true_and]
        refine ⟨_, rfl, a, CT, dq, _, _, rfl, hSt, TS.cl, TS.n3, by simp only [V.ref.injEq, V.int.injEq, V.str.injEq, List.cons.injEq, Option.some.injEq, HO.ins.injEq, and_assoc, exists_and_left, exists_eq_left', exists_eq_left, true_and, and_true, upd_same, upd_upd, putF_nil, putF_cons, lookup_put, lookup_nil, if_false, if_true, List.length_cons, List.length_nil, exists_eq', exists_eq, Nat.reduceAdd, Nat.reduceLT, Nat.zero_add, n_keyword_names, n_keyword_numbers, n_names_keyword, n_names_numbers, n_numbers_keyword, n_numbers_names], lm, rfl, ⟨_, SqL.of (s4 _ _ W.ml)⟩, fun D hD => ?_⟩
        refine lc_nums TK (by show 6 < 8; omega) hD (s4 _ _ W.ml) (W.me.imp fun _ _ h => h.mono s4) (fun t ht => (hR.g.nu t ht).1.nu (hR.g.nu t ht).2) (by omega) (fun a n H Q h1 h2 h3 => ⟨a, rfl, n, h1, h2, h3⟩) ?_
        rw [hnum]
        have s5 : Same H5 (upd H5 D (.lst ([t, u].map fun t => V.int (num t : Nat)))) := same_new hD
        have hQ5 := s5 _ _ hQ
        have hD5 : (upd H5 D (.lst ([t, u].map fun t => V.int (num t : Nat)))) D = some (.lst ([t, u].map fun t => V.int (num t : Nat))) := upd_same
        have s6 := s4.trans s5
        generalize upd H5 D (.lst ([t, u].map fun t => V.int (num t : Nat))) = H6 at *
        refine ⟨D, _, rfl, SqL.of hD5, rfl, ?_⟩
        walk_at "rd"
        refine ⟨_, rfl, _, rfl, _, _, rfl, rfl, _, _, rfl, ⟨by omega, by omega, by omega, by omega⟩, ?_⟩
        have en : (((num u : Nat) : Int) + 1 - ((num t : Nat) : Int)).toNat = num u + 1 - num t := by omega
        rw [en]
        refine for_it (walk_range (lo := ((num t : Nat) : Int)) (n := num u + 1 - num t)) (IDi sl q a (num t : Nat) (num u : Nat) (dryOf pd (ss.take i)) (num t) pd H) ⟨_, _, rfl, s6, hQ5⟩ (fun i σ H' _ h => True.intro) ?_ ?_
        · rintro j x σ H7 H8 hj ⟨v6, v7, rfl, s8, hQ8⟩ ⟨rfl, rfl⟩
          walk_at "rd"
          have hix : ixN ((setR (dryOf pd (ss.take i)) (num t) j).map V.bl).length (((num t : Nat) : Int) + (j : Nat)) = some (num t + j) := by
            rw [List.length_map, setR_len, hdl]
            have : (((num t : Nat) : Int) + (j : Nat)) = ((num t + j : Nat) : Int) := by omega
            rw [this]
            exact Evl.ixN_nat (by omega)
          refine ⟨_, hQ8, _, hix, ?_⟩
          refine ⟨_, _, rfl, ?_, ?_⟩
          · exact same_mut s8 hq
          · rw [upd_same, setR_snoc, List.map_set]
        · rintro σ H7 ⟨v6, v7, rfl, s8, hQ8⟩
          refine ⟨_, _, _, _, _, rfl, s8, ?_⟩
          rw [hpre, e1]
          exact hQ8
      · rw [if_neg (fun e => hk1 (S_inj e))]
        simp only [scal_ss, true_and]
        refine ⟨_, v2, v3, v4, v5, rfl, s4, ?_⟩
        rw [hpre, dry1, if_neg hk1]
        exact hQ
    · rintro σ H4 ⟨v1, v2, v3, v4, v5, rfl, s4, hQ⟩
      rw [List.length_map, hL2.1, List.take_length] at hQ
      exact ⟨_, rfl, k q H4 hq s4 hQ⟩
end

end Wv
end WvG2_
section WvG3_
set_option Elab.async false
set_option linter.all false
set_option maxRecDepth 100000
set_option maxHeartbeats 4000000
namespace Wv
open PySem L2
open SX (S S_len S_inj)
local macro_rules | `(tactic| walk_at "rd") => `(tactic| (try simp only [tVar, tC, tB, tAnd, tOr, tNot, tAndV, tOrV, tNotV, tIf, tNext, tSeq, tBreak, tCont, tDrop, tRet, tRetN, tIfS, gName, gNil, gCons, gTup, gSub, tAsg, tPar, tAug, tOp, tUn, rI, rI0, rU, rEq, rNe, tTest, tFld, tNil, tCons, tTup, tLst, tCB, tNoPart, tPart, tSl, rIxL, rIxT, rIxS, rSlL, rSlS, tBM0, tBM, rAppend, rExtend, rCat, rRep, rSetL, tM0, tM1, tCall, tMeth, tMake, sFld, sFldAug, rAdd, rSub, ipI, tBM0,
  scal_ss, scal_ii, scal_bb, scal_ns, scal_sn, scal_nn, tyV_str, L2.start, List.map_cons, List.map_nil, List.length_cons, List.length_nil, List.replicate, List.cons_append, List.nil_append, List.append_nil, List.getElem?_cons_zero, List.getElem?_cons_succ, List.set_cons_zero, List.set_cons_succ, Nat.reduceAdd, Nat.reduceSub, Nat.zero_add, Nat.sub_self, Nat.add_one_sub_one,
  Option.some.injEq, exists_eq_left, exists_eq_left', exists_eq', exists_eq, V.int.injEq, V.str.injEq, V.ref.injEq, V.bl.injEq, reduceCtorEq, List.cons.injEq, and_true, true_and, exists_and_left, exists_and_right, and_assoc, decide_true, decide_false, if_true, if_false, ite_true, ite_false, Bool.false_eq_true, Bool.true_eq_false, eq_self_iff_true, cx_K, nox_K, tMkSyn, tMkChk, tYes, bne, ne_eq, not_false_eq_true, not_true_eq_false, Bool.not_true, Bool.not_false, decide_eq_true_eq, Bool.not_eq_true', decide_eq_false_iff_not]))
def rankL (ns : List (List Nat)) (ss : List WStm) : List Nat := ss.foldl (fun r s => if s.key.text = rankK then s.names.map (idx ns) else r) []
def rankOf (ns : List (List Nat)) (ss : List WStm) : List Nat := rankL ns ss ++ (List.range ns.length).filter (fun v => decide (v ∉ rankL ns ss))
theorem rankF_le (ns : List (List Nat)) : ∀ (ss : List WStm) (r : List Nat), r.length ≤ 50000 → (∀ s ∈ ss, s.names.length ≤ 50000) → (ss.foldl (fun r s => if s.key.text = rankK then s.names.map (idx ns) else r) r).length ≤ 50000
  | [], r, h, _ => h
  | s :: ss, r, h, k => by
    refine rankF_le ns ss _ ?_ fun t ht => k t (List.mem_cons_of_mem _ ht)
    show (if s.key.text = rankK then s.names.map (idx ns) else r).length ≤ 50000
    split
    · rw [List.length_map]
      exact k s (List.mem_cons_self ..)
    · exact h
theorem flat_ints (l : List Nat) : (l.map fun v => V.int (v : Nat)).all flatV = true := by
  rw [List.all_eq_true]
  intro x hx
  obtain ⟨n, _, rfl⟩ := List.mem_map.mp hx
  rfl
theorem inV_ints (d : Nat) (l : List Nat) : inV (.int (d : Nat)) (l.map fun v => V.int (v : Nat)) = decide (d ∈ l) := by
  unfold inV
  induction l with
  | nil => simp
  | cons a l ih =>
    rw [List.map_cons, List.any_cons, ih]
    have : eqV (.int (a : Nat)) (.int (d : Nat)) = decide (d = a) := by
      show (((a : Nat) : Int) == ((d : Nat) : Int)) = _
      rw [Bool.eq_iff_iff, beq_iff_eq, decide_eq_true_eq]
      constructor <;> intro h <;> omega
    rw [this, Bool.eq_iff_iff]
    simp
section
variable {P : Program} {w : World} {K : PySem.W.Frag} {mg : Str → Option Value} {base : Heap}
theorem sc__rank : FnScope ["statements", "names", "rank", "statement", "token", "valve"] ["statements", "names"] (defScope s__rank) := ⟨rfl, rfl, rfl, by decide +kernel, rfl, by decide +kernel, by decide +kernel⟩
def sp__rank (C CT : Addr) : Sp := fun vs H Q _ => ∃ (sl nl : Addr) (ss : List WStm) (ns : List (List Nat)) (period : Nat), vs = [.ref sl, .ref nl] ∧ LstAt (StmAt C CT) H sl ss ∧ H nl = some (.lst (ns.map fun n => V.str (S n))) ∧ ns.length ≤ 8 ∧ (∀ s ∈ ss, RestOk ns period s) ∧ ss.length ≤ 50000 ∧
  ∀ p H', H p = none → Same H H' → H' p = some (.lst ((rankOf ns ss).map fun v => V.int (v : Nat))) → Q (.ref p) H'
def IRk (sl nl : Addr) (ss : List WStm) (ns : List (List Nat)) (H : Hp) (i : Nat) (σ : L2.St) (H' : Hp) : Prop := ∃ (q : Addr) (v1 v2 v3 : Option V), σ = [some (.ref sl), some (.ref nl), some (.ref q), v1, v2, v3] ∧ Same H H' ∧ H q = none ∧ H' q = some (.lst ((rankL ns (ss.take i)).map fun v => V.int (v : Nat)))
theorem ok__rank {f C CT : Addr} {fd : FuncData} (F : Fun K "_rank" "_rank" s__rank f fd) (T : TopF w K mg) (TK : CToken K C) (TS : CStatement K CT) : FnOk P w K mg base CX0 1 f fd ["statements", "names"] (sp__rank C CT) := by
  refine F.ok sc__rank (fun vs H Q E h => ?_) (fun cdv A outer s H vs Q E hr h => ?_)
  · obtain ⟨sl, nl, ss, ns, pd, rfl, _⟩ := h
    rfl
  · obtain ⟨sl, nl, ss, ns, pd, rfl, hL, hN, h8, hG, hl, k⟩ := h
    refine ⟨_, (pss_cons (ps_set (i := 2) sc__rank.nd rfl (Or.inr rfl) (pe_lst pa_nil))
      (pss_cons (ps_for PassesOwn.never rfl (pi_list (pv 0)) (pg_name (i := 3) sc__rank.nd rfl (Or.inl rfl)) (pss_one (ps_if (pt_cmpR op_eq (pe_fld (pe_fld (pv 3) rfl) rfl) pe_str (nomark _)) (pss_one (ps_set (i := 2) sc__rank.nd rfl (Or.inr rfl) (pe_lc (own := [("token", 4)]) (g := gName 4) (tt := tYes) (te := (tBM K "list" (rIndex K) (tVar 1) (tCons (tFld K (tVar 4) "text") tNil))) rfl sc__rank.nd (pi_list (pe_fld (pv 3) rfl)) (blkOk_by (N := ["statements", "names", "rank", "statement", "token", "valve"]) (sc := defScope s__rank) (by decide +kernel)) (fun _ _ _ _ _ => (pg_name (i := 4) sc__rank.nd rfl (Or.inl rfl))) (fun _ _ _ _ _ => pts_nil) (fun _ _ _ _ _ => (pe_bm PySem.F.plainAttrs_list PySem.F.slot_list_index PySem.F.type_list_index mt_index (pv 1) (pa_cons (pe_fld (pv 4) rfl) pa_nil)))))) pss_nil)))
      (pss_one (ps_ret (pe_op op_cat (pv 2) (pe_lc (own := [("valve", 5)]) (g := gName 5) (tt := (tTest (tOp (rIn K true) (tVar 5) (tVar 2)))) (te := (tVar 5)) rfl sc__rank.nd (pi_range1 (by rfl) T.z_range (pa_cons (pe_callB call_len_seq (by rfl) T.z_len (by decide +kernel) (pa_cons (pv 1) pa_nil)) pa_nil)) (blkOk_by (N := ["statements", "names", "rank", "statement", "token", "valve"]) (sc := defScope s__rank) (by decide +kernel)) (fun _ _ _ _ _ => (pg_name (i := 5) sc__rank.nd rfl (Or.inl rfl))) (fun _ _ _ _ _ => pts_one (pt_cmpR op_notIn_seq (pv 5) (pv 2) (by rfl))) (fun _ _ _ _ _ => (pv 5)))))))), ?_⟩
    obtain ⟨sas, hL1, hL2⟩ := hL
    walk_at "rd"
    refine ⟨Nat.zero_le _, fun q hq => ?_⟩
    have s0 : Same H (upd H q (.lst [])) := same_new hq
    refine ⟨_, rfl, sl, rfl, ⟨_, SqL.of (s0 _ _ hL1)⟩, ?_⟩
    refine for_it (walk_list (xs := sas.map V.ref)) (IRk sl nl ss ns H) ⟨q, none, none, none, rfl, s0, hq, upd_same⟩ (fun i σ H' _ h => ?_) ?_ ?_
    · obtain ⟨_, _, _, _, _, s4, _⟩ := h
      exact SqL.of (s4 _ _ hL1)
    · rintro i x σ H4 H5 hi ⟨q, v1, v2, v3, rfl, s4, hq, hQ⟩ ⟨rfl, ex⟩
      rw [List.length_map, hL2.1] at hi
      obtain ⟨a, ha, hS⟩ := hL2.get hi
      have ex' : x = V.ref a := by
        rw [List.getElem?_map, ha] at ex
        exact (Option.some.inj ex).symm
      subst ex'
      have hR := hG _ (List.getElem_mem hi)
      obtain ⟨dq, kk, ln, lm, nas, mas, W⟩ := hS
      obtain ⟨dy, hy⟩ := id W.ke
      have hSt := s4 _ _ W.ob
      have hKe := s4 _ _ hy
      walk_at "rd"
      simp only [hSt, hKe, TS.cl, TS.n1, TK.cl, TK.n2, V.ref.injEq, V.int.injEq, V.str.injEq, List.cons.injEq, Option.some.injEq, HO.ins.injEq, and_assoc, exists_and_left, exists_eq_left', exists_eq_left, true_and, and_true, upd_same, upd_upd, putF_nil, putF_cons, lookup_put, lookup_nil, if_false, if_true, List.length_cons, List.length_nil, exists_eq', exists_eq, Nat.reduceAdd, Nat.reduceLT, Nat.zero_add, n_keyword_names, n_keyword_numbers, n_names_keyword, n_names_numbers, n_numbers_keyword, n_numbers_names, n_kind_text, n_kind_line, n_kind_column, n_text_kind, n_text_line, n_text_column, n_line_kind, n_line_text, n_line_column, n_column_kind, n_column_text, n_column_line]
      rw [str_rank]
      have hpre : rankL ns (ss.take (i + 1)) = if ss[i].key.text = rankK then ss[i].names.map (idx ns) else rankL ns (ss.take i) := by
        rw [List.take_add_one, List.getElem?_eq_getElem hi]
        unfold rankL
        rw [List.foldl_append]
        rfl
      by_cases hk1 : ss[i].key.text = rankK
      · rw [if_pos (by rw [hk1])]
        rw [if_pos hk1] at hpre
        simp only [scal_ss, true_and]
        refine ⟨_, rfl, a, CT, dq, _, _, rfl, hSt, TS.cl, TS.n2, by simp only [V.ref.injEq, V.int.injEq, V.str.injEq, List.cons.injEq, Option.some.injEq, HO.ins.injEq, and_assoc, exists_and_left, exists_eq_left', exists_eq_left, true_and, and_true, upd_same, upd_upd, putF_nil, putF_cons, lookup_put, lookup_nil, if_false, if_true, List.length_cons, List.length_nil, exists_eq', exists_eq, Nat.reduceAdd, Nat.reduceLT, Nat.zero_add, n_keyword_names, n_keyword_numbers, n_names_keyword, n_names_numbers, n_numbers_keyword, n_numbers_names], ln, rfl, ⟨_, SqL.of (s4 _ _ W.nl)⟩, fun D hD => ?_⟩
        have hE := W.ne.imp fun _ _ h => TokAt.mono h s4
        refine lc_map (ys := (ss[i].names.map (idx ns)).map fun v => V.int (v : Nat)) hD (s4 _ _ W.nl) (by rw [List.length_map, List.length_map, List.length_map, W.ne.1]) (by rw [List.length_map, W.ne.1]; have := hR.l; omega) (fun j x y H' k hx hy s1 hk => ?_) ?_
        · obtain ⟨b, t, rfl, ht, ⟨dz, hT⟩⟩ := toks_map hE hx
          rw [List.getElem?_map, List.getElem?_map, ht] at hy
          obtain rfl := Option.some.inj hy
          have hm := hR.rk hk1 t (List.mem_of_getElem? ht)
          obtain ⟨x1, x2, x3⟩ := idx_strs hm
          have hN5 := s1 _ _ (s4 _ _ hN)
          have hT5 := s1 _ _ hT
          walk_at "rd"
          refine ⟨tyV_lst hN5, C, dz, _, hT5, TK.cl, TK.n2, .str (S t.text), by simp only [V.ref.injEq, V.int.injEq, V.str.injEq, List.cons.injEq, Option.some.injEq, HO.ins.injEq, and_assoc, exists_and_left, exists_eq_left', exists_eq_left, true_and, and_true, upd_same, upd_upd, putF_nil, putF_cons, lookup_put, lookup_nil, if_false, if_true, List.length_cons, List.length_nil, exists_eq', exists_eq, Nat.reduceAdd, Nat.reduceLT, Nat.zero_add, n_kind_text, n_kind_line, n_kind_column, n_text_kind, n_text_line, n_text_column, n_line_kind, n_line_text, n_line_column, n_column_kind, n_column_text, n_column_line], ?_⟩
          exact ⟨nl, _, _, idx ns t, _, rfl, rfl, SqL.of hN5, rfl, flat_strs _, x1, x2, x3, hk⟩
        · refine ⟨D, _, _, _, rfl, s4.trans (same_new hD), s4.free hD, ?_⟩
          rw [hpre]
          exact upd_same
      · rw [if_neg (fun e => hk1 (S_inj e))]
        rw [if_neg hk1] at hpre
        simp only [scal_ss, true_and]
        refine ⟨q, _, v2, v3, rfl, s4, hq, ?_⟩
        rw [hpre]
        exact hQ
    · rintro σ H4 ⟨q, v1, v2, v3, rfl, s4, hq, hQ⟩
      rw [List.length_map, hL2.1, List.take_length] at hQ
      walk_at "rd"
      have hN4 := s4 _ _ hN
      refine ⟨_, rfl, nl, rfl, _, .inl (SqL.of hN4), _, rfl, by omega, by rw [List.length_map]; omega, fun D hD => ?_⟩
      rw [List.length_map, Int.toNat_natCast]
      have hs4 : ∀ xs : List V, Same H4 (upd H4 D (.lst xs)) := fun xs => same_new hD
      have hrl : (rankL ns ss).length ≤ 50000 := rankF_le ns ss [] (Nat.zero_le _) fun s hs => (hG s hs).l
      refine lc_range (lo := 0) (fun i H' => H' = upd H4 D (.lst (((List.range i).filter fun v => decide (v ∉ rankL ns ss)).map fun v => V.int (v : Nat)))) rfl (fun i H' hi e => ?_) (fun H' e => ?_)
      · subst e
        have hz : (0 : Int) + (i : Nat) = ((i : Nat) : Int) := by omega
        rw [hz]
        have hQ' := hs4 (((List.range i).filter fun v => decide (v ∉ rankL ns ss)).map fun v => V.int (v : Nat)) _ _ hQ
        have hfl : ((List.range i).filter fun v => decide (v ∉ rankL ns ss)).length ≤ i := by
          have := List.length_filter_le (fun v => decide (v ∉ rankL ns ss)) (List.range i)
          rw [List.length_range] at this
          exact this
        have hstep : ((List.range (i + 1)).filter fun v => decide (v ∉ rankL ns ss)) = ((List.range i).filter fun v => decide (v ∉ rankL ns ss)) ++ (if i ∈ rankL ns ss then [] else [i]) := by
          rw [List.range_succ, List.filter_append]
          by_cases h : i ∈ rankL ns ss
          · simp [h]
          · simp [h]
        refine ⟨rfl, .int (i : Nat), rfl, .ref q, rfl, q, _, rfl, .inl (SqL.of hQ'), rfl, flat_ints _, _, rfl, ?_⟩
        rw [inV_ints, hstep]
        by_cases h : i ∈ rankL ns ss
        · rw [if_pos h, List.append_nil]
          simp only [h, decide_true, Bool.not_true, if_true, Bool.false_eq_true, if_false]
        · rw [if_neg h]
          simp only [h, decide_false, Bool.not_false, if_true]
          refine ⟨.int (i : Nat), rfl, _, upd_same, line_lt (by rw [List.length_map]; omega), ?_⟩
          rw [upd_upd, List.map_append]
          rfl
      · subst e
        refine ⟨D, rfl, _, hs4 _ _ _ hQ, _, upd_same, ?_, fun p hp => ?_⟩
        · have hfl : ((List.range ns.length).filter fun v => decide (v ∉ rankL ns ss)).length ≤ ns.length := by
            have := List.length_filter_le (fun v => decide (v ∉ rankL ns ss)) (List.range ns.length)
            rw [List.length_range] at this
            exact this
          rw [List.length_map, List.length_map]
          exact line_of (by omega)
        · refine k p _ ((s4.trans (hs4 _)).free hp) ((s4.trans (hs4 _)).trans (same_new hp)) ?_
          rw [upd_same, rankOf, List.map_append]
end

end Wv
end WvG3_
section WvSort_
set_option Elab.async false
set_option linter.all false
set_option maxRecDepth 100000
set_option maxHeartbeats 4000000
/-! sorted(xs, key=lambda x: (x[0], x[1])), xs a list of tuples -/
namespace Wv
open PySem PySem.Spec PyProof.Rows L2 NdefX LamX
theorem swoK {α : Type} (k : α → Int × Int) : SrtO.Swo (fun x y => SrtO.lexB (k x) (k y)) := by
  refine ⟨fun x y h => ?_, fun x y z h1 h2 => ?_⟩
  · have a := SrtO.lexB_iff.mp h
    refine SrtO.lexB_no.mpr ?_
    omega
  · have a := SrtO.lexB_no.mp h1
    have b := SrtO.lexB_no.mp h2
    refine SrtO.lexB_no.mpr ?_
    omega
section
variable {X : Cx} {pins : List (Addr × Obj)} {σ : L2.St} {H : Hp} {s : Shared}
/-- an object made since the entry, not told of so far, is told of from now on -/
theorem adopt {a : Addr} {o : HO} (I : Inv X pins σ H s) (hn : H a = none) (h1 : X.s_0.heap.objs.size ≤ a) (h2 : a ≠ X.env.locals) (h3 : ∀ x c, X.env.cells.lookup x = some c → c ≠ a) (h4 : ∀ p ∈ X.pn ++ pins, p.1 ≠ a)
    (he : ∃ u, s.heap.get? a = some u) (new : ObjOk X.prog X.w (upd H a o) s.heap a o) : Inv X pins σ (upd H a o) s := by
  have U : Un (frs X.stack) [a] H (upd H a o) s.heap s.heap := {
    keep := fun b u q _ _ _ => q
    slot := fun b u q _ _ _ => ⟨u.slots, q⟩
    free := fun b u q n hx => by rw [upd_ne (by simpa using hx)]; exact n
    there := fun b u q _ => ⟨u, q⟩
    tups := fun b xs q => by rw [upd_ne (ne_of_none q hn)]; exact q
    frzs := fun b u v q => by rw [upd_ne (ne_of_none q hn)]; exact q
    tbls := fun b ps q => ⟨#[], by rw [upd_ne (ne_of_none q hn), q]; simp⟩ }
  refine I.call' (s' := s) (ch := [a]) rfl U (fun b u q => ?_) I.bare (fun b hb => ?_)
  · by_cases e : b = a
    · subst e
      rw [upd_same] at q
      cases q
      exact new
    · rw [upd_ne e] at q
      exact (I.hok b u q).stay (fun c v _ z => z) (fun c z => by rw [upd_ne (ne_of_none z hn)]; exact z) (fun c xs z => by rw [upd_ne (ne_of_none z hn)]; exact z)
  · obtain rfl := List.mem_singleton.mp hb
    exact ⟨.inr h1, h2, h3, h4⟩
end
/-- a place of an object made here that nothing else names -/
structure Own0 (X : Cx) (pins : List (Addr × Obj)) (a : Addr) : Prop where
  s0 : X.s_0.heap.objs.size ≤ a
  loc : a ≠ X.env.locals
  cel : ∀ x c, X.env.cells.lookup x = some c → c ≠ a
  pin : ∀ p ∈ X.pn ++ pins, p.1 ≠ a
  fr : a ∉ frs X.stack
theorem own0 {X : Cx} {pins : List (Addr × Obj)} {σ : L2.St} {H : Hp} {s : Shared} (I : Inv X pins σ H s) {a : Addr} (h : s.heap.objs.size ≤ a) : Own0 X pins a := by
  have no : ∀ {b : Addr}, b < s.heap.objs.size → b ≠ a := fun {b} hb e => Nat.lt_irrefl _ (Nat.lt_of_lt_of_le (e ▸ hb) h)
  refine ⟨Nat.le_trans I.sz h, (no I.lt).symm, fun x c hx => ?_, fun p hp => no (Heap.lt_size (I.pin p hp).1), fun z => ?_⟩
  · obtain ⟨v, o, ho, _⟩ := I.cell x c hx
    exact no (Heap.lt_size ho)
  · rcases List.mem_cons.mp (I.stkSub _ z) with e | e
    · exact no I.lt e.symm
    · exact I.nofs h e
theorem vals_refs : ∀ {ts : List Addr} {us : List Value}, Vals (ts.map V.ref) us → us = ts.map Value.ref
  | [], _, .nil => rfl
  | t :: ts, _, .cons r h => by
    cases r
    rw [vals_refs h, List.map_cons]
theorem vals_of_refs : ∀ (ts : List Addr), Vals (ts.map V.ref) (ts.map Value.ref)
  | [] => .nil
  | t :: ts => .cons (show L2.RelV (.ref t) (.ref t) from rfl) (vals_of_refs ts)
def adr : Value → Addr
  | .ref a => a
  | _ => 0
theorem adr_zip : ∀ (qs ts : List Addr), qs.length = ts.length → (((qs.map Value.ref).zip (ts.map Value.ref)).map fun p : Keyed => adr p.2) = ts
  | [], [], _ => rfl
  | q :: qs, t :: ts, h => by
    rw [List.map_cons, List.map_cons, List.zip_cons_cons, List.map_cons, adr_zip qs ts (by simpa using h)]
    rfl
section
variable {X : Cx} {pins : List (Addr × Obj)} {σ : L2.St} {H : Hp} {s : Shared}
/-- what one call of the key gives -/
def Turn (X : Cx) (pins : List (Addr × Obj)) (σ : L2.St) (H : Hp) (f : Addr) (fo : Obj) (ts : List Addr) (k : Addr → Int × Int) : Prop :=
  ∀ (Hk : Hp) (s' : Shared), Inv X pins σ Hk s' → (∀ b o, H b = some o → Hk b = some o) → s'.heap.get? f = some fo → Hk f = none → ∀ t ∈ ts,
    wpAny (model X.prog X.w) X.A.in1.in1 (call (.ref f) [.ref t]) (fun u s'' => ∃ q, u = .ref q ∧ Hk q = none ∧ Inv X pins σ (upd Hk q (.tup [.int (k t).1, .int (k t).2])) s'' ∧
      (∀ b o, s'.heap.get? b = some o → Hk b = none → b ∉ frs X.stack → s''.heap.get? b = some o) ∧ ∀ b o, s'.heap.get? b = some o → Hk b = none → b ≠ q) (fun _ _ => False) s'
theorem sorted_lam {f l : Addr} {fo : Obj} {ts : List Addr} {k : Addr → Int × Int} {Q : VK} (I : Inv X pins σ H s) (hl : SqL X.K H l (ts.map V.ref)) (hf : s.heap.get? f = some fo) (hfn : H f = none) (hfr : f ∉ frs X.stack)
    (turn : Turn X pins σ H f fo ts k)
    (q : ∀ (ys : List Addr) (H' : Hp) (p : Addr), SrtO.Srtd (fun x y => SrtO.lexB (k x) (k y)) ys → SrtO.Stb (fun x y => SrtO.lexB (k x) (k y)) ys ts → (∀ b o, H b = some o → H' b = some o) → H p = none → H' p = some (.lst (ys.map V.ref)) → Q (.ref p) H') :
    wpAny (model X.prog X.w) X.A (call (.builtin "sorted") [.ref l] [(Str.ofString "key", .ref f)]) (EP X pins σ Q) X.xe s := by
  obtain ⟨its, rv, hlst, hz⟩ := I.list hl
  obtain rfl := vals_refs rv
  rw [List.length_map] at hz
  have hzv : (ts.map Value.ref).length ≤ sizeLine := by rw [List.length_map]; exact hz
  refine call_function_entry_kw kind_sorted plain_sorted entry_sorted (ksk_s1 _ _) ?_
  unfold Builtin.«sorted»
  refine wpAny_bind (m := checkCount "sorted" 1 1 _) (wpAny_pure ?_)
  refine wpAny_bind (collect_list hlst.isList ?_ hzv)
  refine wpAny_bind (wpAny_newList ?_ hzv)
  have hsz : ((s.heap.push (seqObj "list" #[] 0)).update s.heap.objs.size (Obj.mapSeq (· ++ (ts.map Value.ref).toArray))).objs.size = s.heap.objs.size + 1 := by
    rw [Heap.size_update, size_push']
  have hoL : (((s.heap.push (seqObj "list" #[] 0)).update s.heap.objs.size (Obj.mapSeq (· ++ (ts.map Value.ref).toArray))).push (seqObj "list" (ts.map Value.ref).toArray 0)).get? (s.heap.objs.size + 1) = some (seqObj "list" (ts.map Value.ref).toArray 0) := by
    rw [← hsz]; exact Heap.get?_push_size _ rfl
  have keep : ∀ b o, s.heap.get? b = some o → (((s.heap.push (seqObj "list" #[] 0)).update s.heap.objs.size (Obj.mapSeq (· ++ (ts.map Value.ref).toArray))).push (seqObj "list" (ts.map Value.ref).toArray 0)).get? b = some o := fun b o q => by
    have hlt : b < s.heap.objs.size := Heap.lt_size q
    refine Heap.get?_push_of_some _ ?_
    rw [Heap.get?_update_ne _ _ _ _ (Nat.ne_of_lt hlt)]
    exact Heap.get?_push_of_some _ q
  show wpAny _ _ _ _ _ { s with heap := ((s.heap.push (seqObj "list" #[] 0)).update s.heap.objs.size (Obj.mapSeq (· ++ (ts.map Value.ref).toArray))).push (seqObj "list" (ts.map Value.ref).toArray 0) }
  rw [hsz]
  refine wpAny_bind (wpAny_holding (wpAny_call_entry_kw slot_list_sort ⟨_, hoL, rfl⟩ entry_list_sort ?_ (ksk_l1 _ _)))
  show wpAny (model X.prog X.w) X.A.in1.in1 (Builtin.«list.sort» ⟨[.ref (s.heap.objs.size + 1)], [(Str.ofString "key", .ref f)]⟩) _ _ _
  rw [ksk_t1]
  have hfa : f ≠ s.heap.objs.size + 1 := Nat.ne_of_lt (Nat.lt_succ_of_lt (Heap.lt_size hf))
  have oA := own0 I (a := s.heap.objs.size + 1) (Nat.le_succ _)
  have nA : H (s.heap.objs.size + 1) = none := I.hok.fresh (Nat.le_succ _)
  generalize s.heap.objs.size + 1 = a2 at *
  generalize hh1 : ((s.heap.push (seqObj "list" #[] 0)).update s.heap.objs.size (Obj.mapSeq (· ++ (ts.map Value.ref).toArray))).push (seqObj "list" (ts.map Value.ref).toArray 0) = h1 at *
  have I1 : Inv X pins σ H { s with heap := h1 } := I.kept (t' := s.toks) keep
  have hf1 := keep _ _ hf
  -- the list is emptied, the keys' list made
  obtain ⟨e1, ho1⟩ : ∃ e1, (h1.update a2 (Obj.mapSeq fun _ => (#[] : Array Value))).get? a2 = some (seqObj "list" #[] e1) := ⟨_, get?_update_seq hoL fun _ => #[]⟩
  have I2 : Inv X pins σ H { s with heap := h1.update a2 (Obj.mapSeq fun _ => (#[] : Array Value)) } := by
    have z := I1.turned (h' := h1.update a2 (Obj.mapSeq fun _ => (#[] : Array Value))) (t' := s.toks) (it := a2) (fun b o hb e => (Heap.get?_update_ne _ _ _ _ hb).trans e) nA oA.loc (.inr oA.s0) oA.cel oA.pin
    exact z
  unfold ksk_tree
  refine wpAny_bind (listItems_at hoL rfl ?_)
  refine wpAny_bind (listUpdate_at hoL rfl ?_ (by rw [List.size_toArray]; exact hzv) (Nat.zero_le _))
  refine wpAny_bind (seqEpoch_at ho1 rfl ?_)
  refine wpAny_bind (wpAny_newTuple ?_ (by show (ts.map Value.ref).length ≤ _; exact hzv))
  refine wpAny_bind (wpAny_newList ?_ (Nat.zero_le _))
  refine wpAny_holding ?_
  generalize hh2 : h1.update a2 (Obj.mapSeq fun _ => (#[] : Array Value)) = h2 at *
  have keep3 : ∀ b o, h2.get? b = some o → ((h2.push (seqObj "tuple" (ts.map Value.ref).toArray 0)).push (seqObj "list" #[] 0)).get? b = some o := fun b o e => Heap.get?_push_of_some _ (Heap.get?_push_of_some _ e)
  have hkS : ((h2.push (seqObj "tuple" (ts.map Value.ref).toArray 0)).push (seqObj "list" #[] 0)).get? (h2.push (seqObj "tuple" (ts.map Value.ref).toArray 0)).objs.size = some (seqObj "list" #[] 0) := Heap.get?_push_size _ rfl
  have oK := own0 I2 (a := (h2.push (seqObj "tuple" (ts.map Value.ref).toArray 0)).objs.size) (by rw [size_push']; exact Nat.le_succ _)
  have nK : H (h2.push (seqObj "tuple" (ts.map Value.ref).toArray 0)).objs.size = none := I2.hok.fresh (by rw [size_push']; exact Nat.le_succ _)
  have hKA : (h2.push (seqObj "tuple" (ts.map Value.ref).toArray 0)).objs.size ≠ a2 := fun e => Nat.lt_irrefl _ (Nat.lt_of_lt_of_le (show a2 < h2.objs.size from Heap.lt_size ho1) (by rw [← e, size_push']; exact Nat.le_succ _))
  have hf2 : h2.get? f = some fo := by rw [← hh2, Heap.get?_update_ne _ _ _ _ hfa]; exact hf1
  have hfK : f ≠ (h2.push (seqObj "tuple" (ts.map Value.ref).toArray 0)).objs.size := Nat.ne_of_lt (by rw [size_push']; exact Nat.lt_succ_of_lt (Heap.lt_size hf2))
  generalize (h2.push (seqObj "tuple" (ts.map Value.ref).toArray 0)).objs.size = kS at *
  have I3 : Inv X pins σ H { s with heap := (h2.push (seqObj "tuple" (ts.map Value.ref).toArray 0)).push (seqObj "list" #[] 0) } := by
    have z := I2.kept (t' := s.toks) keep3
    exact z
  have hf3 := keep3 _ _ hf2
  have ho3 := keep3 _ _ ho1
  generalize (h2.push (seqObj "tuple" (ts.map Value.ref).toArray 0)).push (seqObj "list" #[] 0) = h3 at *
  unfold ksk_rest
  refine wpAny_bind (wpAny_rule ?_)
  first
    | rw [List.forIn_toArray]
    | (rw [← Array.forIn_toList]; simp only [List.toList_toArray])
    | rw [← Array.forIn_toList]
  refine wpAny_bind (ksk_fold (fun i s' => ∃ (Hk : Hp) (qs : List Addr) (e : Nat), Inv X pins σ Hk s' ∧ (∀ b o, H b = some o → Hk b = some o) ∧ Hk a2 = none ∧ Hk kS = none ∧ Hk f = none ∧ s'.heap.get? f = some fo ∧ s'.heap.get? a2 = some (seqObj "list" #[] e1) ∧
      s'.heap.get? kS = some (seqObj "list" (qs.map Value.ref).toArray e) ∧ qs.length = i ∧ i ≤ ts.length ∧ ∀ j q t, qs[j]? = some q → ts[j]? = some t → Hk q = some (.tup [.int (k t).1, .int (k t).2])) (ts.map Value.ref) 0 { s with heap := h3 }
    ⟨H, [], 0, I3, fun _ _ e => e, nA, nK, hfn, hf3, ho3, hkS, rfl, Nat.zero_le _, fun j q t e => by
      rw [List.getElem?_nil] at e
      cases e⟩ ?step ?done)
  case step =>
    rintro j x s' hx ⟨Hk, qs, e, J, ext, na, nk, nf, gf, ga, gk, hlen, hle, hqs⟩
    rw [Nat.zero_add] at hlen hle
    rw [Nat.zero_add]
    rw [List.getElem?_map] at hx
    obtain ⟨t, ht, rfl⟩ := Option.map_eq_some_iff.mp hx
    have hj : j < ts.length := (List.getElem?_eq_some_iff.mp ht).1
    refine wpAny_bind (wpAny_attempt (wpAny_mono (turn Hk s' J ext gf nf t (List.mem_of_getElem? ht)) (fun v s'' he => ?_) fun _ _ hF => hF.elim))
    obtain ⟨q, rfl, nq, J2, kp, nqq⟩ := he
    have ga2 := kp a2 _ ga na oA.fr
    have gk2 := kp kS _ gk nk oK.fr
    have gf2 := kp f _ gf nf hfr
    have na2 : a2 ≠ q := nqq _ _ ga na
    have nk2 : kS ≠ q := nqq _ _ gk nk
    have nf2 : f ≠ q := nqq _ _ gf nf
    have J3 : Inv X pins σ (upd Hk q (.tup [.int (k t).1, .int (k t).2])) { s'' with heap := s''.heap.update kS (Obj.mapSeq (·.push (.ref q))) } := by
      have z := J2.turned (h' := s''.heap.update kS (Obj.mapSeq (·.push (.ref q)))) (t' := s''.toks) (it := kS) (fun b o hb e => (Heap.get?_update_ne _ _ _ _ hb).trans e) (by rw [upd_ne nk2]; exact nk) oK.loc (.inr oK.s0) oK.cel oK.pin
      exact z
    have sz : ((qs.map Value.ref).toArray).size = j := by rw [List.size_toArray, List.length_map, hlen]
    refine wpAny_bind (listUpdate_at gk2 rfl ?_ (by rw [sz]; omega) (by rw [Array.size_push, sz]; omega))
    obtain ⟨c2, hc2⟩ : ∃ c2, (s''.heap.update kS (Obj.mapSeq (·.push (.ref q)))).get? kS = some (seqObj "list" ((qs.map Value.ref).toArray.push (.ref q)) c2) := ⟨_, get?_update_seq gk2 (·.push (.ref q))⟩
    refine wpAny_pure ⟨rfl, _, qs ++ [q], c2, J3, fun b o e => ?_, by rw [upd_ne na2]; exact na, by rw [upd_ne nk2]; exact nk, by rw [upd_ne nf2]; exact nf, (Heap.get?_update_ne _ _ _ _ hfK).trans gf2, (Heap.get?_update_ne _ _ _ _ hKA.symm).trans ga2, ?_, by simp [hlen], hj, fun i p u hp hu => ?_⟩
    · rw [upd_ne (ne_of_none (ext b o e) nq)]
      exact ext b o e
    · rw [show ((qs ++ [q]).map Value.ref).toArray = (qs.map Value.ref).toArray.push (.ref q) by simp]
      exact hc2
    · by_cases hi : i < qs.length
      · rw [List.getElem?_append_left hi] at hp
        have z := hqs i p u hp hu
        rw [upd_ne (ne_of_none z nq)]
        exact z
      · rw [List.getElem?_append_right (by omega)] at hp
        have hi2 : i - qs.length = 0 := by
          have := (List.getElem?_eq_some_iff.mp hp).1
          simp at this
          omega
        rw [hi2] at hp
        obtain rfl : q = p := by simpa using hp
        have ei : i = j := by omega
        subst ei
        rw [ht] at hu
        cases hu
        exact upd_same
  case done =>
    rintro s' ⟨Hk, qs, e, J, ext, na, nk, nf, gf, ga, gk, hlen, hle, hqs⟩
    rw [Nat.zero_add, List.length_map] at hlen
    refine wpAny_bind (listItems_at gk rfl ?_)
    have hpr : ∀ p, p ∈ (qs.map Value.ref).zip (ts.map Value.ref) → ∃ q t, p = (Value.ref q, Value.ref t) ∧ Hk q = some (.tup [.int (k t).1, .int (k t).2]) := fun p hp => by
      obtain ⟨i, hi⟩ := List.mem_iff_getElem?.mp hp
      rw [List.getElem?_zip_eq_some] at hi
      rw [List.getElem?_map, List.getElem?_map] at hi
      obtain ⟨q, hq, e1⟩ := Option.map_eq_some_iff.mp hi.1
      obtain ⟨t, ht, e2⟩ := Option.map_eq_some_iff.mp hi.2
      exact ⟨q, t, Prod.ext e1.symm e2.symm, hqs i q t hq ht⟩
    have hz0 : (((qs.map Value.ref).toArray).zip (ts.map Value.ref).toArray).toList = (qs.map Value.ref).zip (ts.map Value.ref) := by simp
    have tail : ∀ st : SortSt, SrtO.Srtd (fun p q : Keyed => SrtO.lexB (k (adr p.2)) (k (adr q.2))) (arrOf st).toList → SrtO.Stb (fun p q : Keyed => SrtO.lexB (k (adr p.2)) (k (adr q.2))) (arrOf st).toList ((qs.map Value.ref).zip (ts.map Value.ref)) → failedOf st = none →
        wpAny (model X.prog X.w) X.A.in1.in1 (ksk_tail a2 false e1 (.ref kS) st) (fun fin s' => ∃ v, fin = Fin.done (Flow.ret v) ∧ wpAny (model X.prog X.w) X.A.in1 (ret (Value.ref a2)) (fun fin s' => ∃ v, fin = Fin.done (Flow.ret v) ∧ EP X pins σ Q v s') X.xe s') X.xe s' := by
      intro st h1 h2 h3
      have hlz : (arrOf st).size = ts.length := by
        rw [← Array.length_toList, h2.perm.length_eq, List.length_zip, List.length_map, List.length_map, hlen, Nat.min_self]
      unfold ksk_tail
      try dsimp only
      refine wpAny_bind (listUpdate_at gk rfl ?_ (by rw [List.size_toArray, List.length_map, hlen]; exact hz) (Nat.zero_le _))
      refine wpAny_bind (wpAny_letGo ?_)
      have ga1 : (s'.heap.update kS (Obj.mapSeq fun _ => (#[] : Array Value))).get? a2 = some (seqObj "list" #[] e1) := (Heap.get?_update_ne _ _ _ _ hKA.symm).trans ga
      refine wpAny_bind (seqEpoch_at ga1 rfl ?_)
      have hsz2 : (if false = true then ((arrOf st).map (·.2)).reverse else (arrOf st).map (·.2)).size ≤ sizeLine + 1 := by
        rw [if_neg (by decide), Array.size_map, hlz]
        omega
      refine wpAny_bind (listUpdate_at ga1 rfl ?_ (Nat.zero_le _) hsz2)
      rw [h3]
      simp only [bne_self_eq_false, Bool.false_eq_true, if_false]
      obtain ⟨c2, hc2⟩ : ∃ c2, ((s'.heap.update kS (Obj.mapSeq fun _ => (#[] : Array Value))).update a2 (Obj.mapSeq fun _ => (arrOf st).map (·.2))).get? a2 = some (seqObj "list" ((arrOf st).map (·.2)) c2) := ⟨_, get?_update_seq ga1 fun _ => (arrOf st).map (·.2)⟩
      have J1 : Inv X pins σ Hk { s' with heap := s'.heap.update kS (Obj.mapSeq fun _ => (#[] : Array Value)) } := by
        have z := J.turned (h' := s'.heap.update kS (Obj.mapSeq fun _ => (#[] : Array Value))) (t' := s'.toks) (it := kS) (fun b o hb e => (Heap.get?_update_ne _ _ _ _ hb).trans e) nk oK.loc (.inr oK.s0) oK.cel oK.pin
        exact z
      have J2 : Inv X pins σ Hk { s' with heap := (s'.heap.update kS (Obj.mapSeq fun _ => (#[] : Array Value))).update a2 (Obj.mapSeq fun _ => (arrOf st).map (·.2)) } := by
        have z := J1.turned (h' := (s'.heap.update kS (Obj.mapSeq fun _ => (#[] : Array Value))).update a2 (Obj.mapSeq fun _ => (arrOf st).map (·.2))) (t' := s'.toks) (it := a2) (fun b o hb e => (Heap.get?_update_ne _ _ _ _ hb).trans e) na oA.loc (.inr oA.s0) oA.cel oA.pin
        exact z
      have hitems : ((arrOf st).map (·.2)).toList = ((arrOf st).toList.map fun p : Keyed => adr p.2).map Value.ref := by
        rw [Array.toList_map, List.map_map]
        refine List.map_congr_left fun p hp => ?_
        obtain ⟨q, t, rfl, _⟩ := hpr p (h2.perm.mem_iff.mp hp)
        rfl
      have hys : SrtO.Stb (fun x y => SrtO.lexB (k x) (k y)) ((arrOf st).toList.map fun p : Keyed => adr p.2) ts := by
        have z := SrtO.Stb.map (swoK k) (fun p : Keyed => adr p.2) h2
        rw [adr_zip qs ts hlen] at z
        exact z
      have J3 := adopt (o := .lst (((arrOf st).toList.map fun p : Keyed => adr p.2).map V.ref)) J2 na oA.s0 oA.loc oA.cel oA.pin ⟨_, hc2⟩ ⟨by rw [List.length_map, List.length_map, Array.length_toList, hlz]; exact hz, _, c2, vals_of_refs _, by rw [← hitems, Array.toArray_toList]; exact hc2⟩
      refine wpAny_pure ⟨_, rfl, wpAny_pure ⟨_, rfl, .ref a2, _, J3, rfl, q _ _ a2 (SrtO.srtd_map h1) hys (fun b o e => ?_) nA upd_same⟩⟩
      rw [upd_ne (ne_of_none (ext b o e) na)]
      exact ext b o e
    unfold ksk_end
    simp only [Bool.false_eq_true, if_false]
    by_cases h2 : (ts.map Value.ref).toArray.size < 2
    · rw [if_pos h2, if_pos h2]
      refine wpAny_bind (wpAny_pure ?_)
      rw [StateT.run_pure]
      refine wpAny_bind (wpAny_pure ?_)
      refine tail _ ?_ ?_ rfl
      · show SrtO.Srtd _ (((qs.map Value.ref).toArray).zip (ts.map Value.ref).toArray).toList
        rw [hz0]
        have hl2 : ((qs.map Value.ref).zip (ts.map Value.ref)).length < 2 := by
          rw [List.length_zip, List.length_map, List.length_map, hlen, Nat.min_self]
          rw [List.size_toArray, List.length_map] at h2
          exact h2
        match (qs.map Value.ref).zip (ts.map Value.ref), hl2 with
        | [], _ => exact List.Pairwise.nil
        | [v], _ => exact List.pairwise_singleton _ _
        | _ :: _ :: l, h => exact absurd h (by rw [List.length_cons, List.length_cons]; omega)
      · show SrtO.Stb _ (((qs.map Value.ref).toArray).zip (ts.map Value.ref).toArray).toList _
        rw [hz0]
        exact SrtO.Stb.refl _
    · rw [if_neg h2, if_neg h2]
      let kv : Value → Int × Int := fun u => match u with
        | .ref q => (match Hk q with
          | some (.tup [.int i, .int j]) => (i, j)
          | _ => (0, 0))
        | _ => (0, 0)
      have kve : ∀ q t, Hk q = some (.tup [.int (k t).1, .int (k t).2]) → kv (.ref q) = k t := fun q t e => by
        show (match Hk q with
          | some (.tup [.int i, .int j]) => (i, j)
          | _ => (0, 0)) = k t
        rw [e]
      have hv : ∀ v ∈ qs.map Value.ref, Srt.IsPair s'.heap v (kv v).1 (kv v).2 := fun v hv => by
        obtain ⟨i, hi⟩ := List.mem_iff_getElem?.mp hv
        rw [List.getElem?_map] at hi
        obtain ⟨q, hq, rfl⟩ := Option.map_eq_some_iff.mp hi
        have hil : i < qs.length := (List.getElem?_eq_some_iff.mp hq).1
        obtain ⟨t, ht⟩ : ∃ t, ts[i]? = some t := ⟨ts[i], List.getElem?_eq_getElem (by omega)⟩
        have hk := hqs i q t hq ht
        rw [kve q t hk]
        obtain ⟨_, its2, r2, o, ho, hc, n, hd⟩ := J.hok _ _ hk
        obtain ⟨u1, u2, rfl, ri, rj⟩ := vals2 r2
        obtain ⟨t1, rfl⟩ := ri
        obtain ⟨t2, rfl⟩ := rj
        exact ⟨q, o, t1, t2, n, rfl, ho, hc, hd⟩
      have h2' : 2 ≤ ts.length := by
        rw [List.size_toArray, List.length_map] at h2
        omega
      obtain ⟨κ, hkind, hT⟩ := SrtO.pairs_sortableO (prog := X.prog) (w := X.w) (A := X.A.in1.in1) (s := s') (a := a2) (vs := qs.map Value.ref) (k := kv) (by rw [List.length_map]; omega) hv (fun o e => by
        rw [ga] at e
        cases e
        exact fun z => absurd (Value.type.inj z) (by decide)) s'.heap (fun b o _ e => e)
      have C : SrtO.Cmp X.prog X.w X.A.in1.in1 s' κ (fun p => p ∈ (qs.map Value.ref).zip (ts.map Value.ref)) (fun p q : Keyed => SrtO.lexB (k (adr p.2)) (k (adr q.2))) := fun p q hp hq => by
        have z := hT p q (List.of_mem_zip hp).1 (List.of_mem_zip hq).1
        obtain ⟨q1, t1, rfl, e1⟩ := hpr p hp
        obtain ⟨q2, t2, rfl, e2⟩ := hpr q hq
        refine wpAny_mono z (fun r s2 hr => ?_) fun _ _ x => x
        obtain ⟨a1, a2⟩ := hr
        refine ⟨a1, a2.trans ?_⟩
        show SrtO.lexB (kv (.ref q1)) (kv (.ref q2)) = SrtO.lexB (k t1) (k t2)
        rw [kve q1 t1 e1, kve q2 t2 e2]
      refine wpAny_bind (hkind _ _ ?_)
      refine wpAny_bind (wpAny_mono (SrtO.wpS_sortO (st0 := SortSt.mk' κ (((qs.map Value.ref).toArray).zip (ts.map Value.ref).toArray) #[] 7 none)
        (Q := fun _ st' => SrtO.Srtd (fun p q : Keyed => SrtO.lexB (k (adr p.2)) (k (adr q.2))) (arrOf st').toList ∧ SrtO.Stb (fun p q : Keyed => SrtO.lexB (k (adr p.2)) (k (adr q.2))) (arrOf st').toList (((qs.map Value.ref).toArray).zip (ts.map Value.ref).toArray).toList ∧ failedOf st' = none)
        (swoK fun p : Keyed => k (adr p.2)) C rfl (fun p hm => by
          have hm' : p ∈ (((qs.map Value.ref).toArray).zip (ts.map Value.ref).toArray).toList := hm
          rw [hz0] at hm'
          exact hm') rfl rfl fun st' a1 a2 a3 => ⟨a1, a2, a3⟩) ?_ fun _ _ e => e)
      rintro ⟨⟨⟩, st'⟩ s2 ⟨rfl, hp1, hp2, hf3⟩
      rw [hz0] at hp2
      exact tail st' hp1 hp2 hf3
end
end Wv
end WvSort_
section WvSort2_
set_option Elab.async false
set_option linter.all false
set_option maxRecDepth 100000
set_option maxHeartbeats 4000000
namespace Wv
open PySem PySem.Spec PyProof.Rows L2 NdefX LamX
def Wide3 (H : Hp) (ts : List Addr) (k : Addr → Int × Int) : Prop := ∀ t ∈ ts, ∃ n : Int, H t = some (.tup [.int (k t).1, .int (k t).2, .int n])
abbrev lamF (X : Cx) (params : Arguments) (scope : Scope) (c' : Addr) : NF := ⟨"<lambda>", X.env.qual ++ "<lambda>", params, [], scope, [], c'⟩
section
variable {X : Cx} {pins : List (Addr × Obj)} {σ : L2.St} {H : Hp} {s : Shared}
theorem lam_turn {f c' : Addr} {params : Arguments} {body : Expr} {scope : Scope} {pm ctv : Value} {x : Str} {ts : List Addr} {k : Addr → Int × Int} {tb : TE} (hr : Room 3 X.A) (S : NScope [x] [x] [] scope) (hc : H c' = some (CodeO c' (X.env.qual ++ "<lambda>"))) (hw : Wide3 H ts k) (hfr : f ∉ frs X.stack)
    (hbind : ∀ u, bindArgs (PySem.W.kla_fn "<lambda>" (X.env.qual ++ "<lambda>") params body scope [] pm (.ref c') ctv) ⟨[u], []⟩ = pure [(x, u)])
    (hbody : ∀ (A : Around) (outer : List Env) (s : Shared) (H : Hp), PE (ncx CX0 X.prog X.w X.K X.mg X.base [x] (lamF X params scope c') f A outer s H E0) body tb)
    (ht : ∀ (t : Addr) (i j n : Int) (Hk : Hp) (Q : VK), Hk t = some (.tup [.int i, .int j, .int n]) → (∀ q, Hk q = none → Q (.ref q) (upd Hk q (.tup [.int i, .int j]))) → tb [some (.ref t)] Hk Q) :
    Turn X pins σ H f (PySem.W.kla_obj "<lambda>" (X.env.qual ++ "<lambda>") params body scope [] pm c' ctv) ts k := by
  intro Hk s' J ext gf nf t hmt
  obtain ⟨n, hn⟩ := hw t hmt
  have hn := ext _ _ hn
  have hco := ext _ _ hc
  have e0 := J.env0.in1.in1
  have hr1 : Room 1 X.A.in1.in1 := hr.in1.in1
  obtain ⟨⟨oc, vs, tk, h1, h2, h3⟩, _, _⟩ := J.hok c' _ hco
  have rc : codeAny (model X.prog X.w) X.A.in1.in1 (.call (.ref f) ⟨[.ref t], []⟩) (CR CX0 X.stack X.prog X.w Hk s' (fun v H' => ∃ q, v = .ref q ∧ Hk q = none ∧ H' = upd Hk q (.tup [.int (k t).1, .int (k t).2])) E0) s' := by
    refine PySem.W.kla_callFunE hr1.depth gf rfl S.co S.gen rfl ⟨c', oc, vs, tk, rfl, h1, h2, h3⟩ ?_
    rw [hbind]
    refine wpAny_pure (wpAny_newFunctionEnv S.nocell (fun ⟨m, u⟩ hy => S.par m (by obtain rfl := (Prod.ext_iff.mp (List.mem_singleton.mp hy)).1; simp)) (fun h₁ hns hsb => ⟨J.nolimit.fresh _ hsb, ?_⟩) S.kind)
    show codeAny _ _ (.expr body (envF (lamF X params scope c') f s'.heap.objs.size)) _ _
    have kp : ∀ b o, s'.heap.get? b = some o → h₁.get? b = some o := fun b o e => hsb.extBut b o (Nat.ne_of_lt (Heap.lt_size e)) (Heap.get?_push_of_some _ e)
    have CA : CellsAt [] [] [] s'.heap Hk := ⟨rfl, (fun y c e => by cases e), (fun x y c e => by cases e), (fun i y e => by rw [List.getElem?_nil] at e; cases e)⟩
    have J2 : Inv (ncx CX0 X.prog X.w X.K X.mg X.base [x] (lamF X params scope c') f X.A.in1.in1 X.stack s' Hk E0) [] (startF [x] [.ref t] []) Hk { s' with heap := h₁, toks := s'.toks + ([(x, Value.ref t)] : List (Str × Value)).length } :=
      inv_startN (us := [.ref t]) S hr1.hd e0 rfl (.cons rfl .nil) CA hns kp
    have htb : tb [some (.ref t)] Hk (fun v H' => ∃ q, v = .ref q ∧ Hk q = none ∧ H' = upd Hk q (.tup [.int (k t).1, .int (k t).2])) := ht t _ _ n Hk _ hn (fun q hq => ⟨q, rfl, hq, rfl⟩)
    refine PySem.W.kla_codeExpr (wpAny_mono ((hbody _ _ s' Hk).run [] _ _ Hk _ J2 htb) (fun v s2 hq => ?_) fun e s2 hq => hq)
    obtain ⟨w', H', J', rv, q⟩ := hq
    exact ⟨w', H', J'.os, J'.bare, J'.base, J'.hok, rv, q⟩
  refine wpAny_call (codeAny_mono rc fun r s2 hq => ?_)
  cases r with
  | error e => exact (show False from hq).elim
  | ok fl =>
    cases fl with
    | ret u =>
      obtain ⟨v, H', os, bare, un, hok, rv, q, ev, hq0, eH⟩ := hq
      subst ev
      subst eH
      obtain rfl : u = Value.ref q := rv
      have J3 := J.call' (s' := s2) (ch := []) os un hok bare (fun b z => absurd z (by simp))
      exact ⟨q, rfl, hq0, J3, fun b o e1 e2 e3 => un.keep b o e1 e2 e3 (by simp), fun b o e1 e2 e3 => by
        have z := un.free b o e1 e2 (by simp)
        rw [e3, upd_same] at z
        cases z⟩
    | next => exact False.elim hq
    | brk => exact False.elim hq
    | cont => exact False.elim hq
end
/-- sorted(e, key=lambda x: (x[0], x[1])): e a list of tuples of three ints; the list is new -/
def tSortL (T : List (Addr × Str)) (te : TE) : TE := fun σ H Q => te σ H fun v H1 => ∃ (l : Addr) (ts : List Addr) (k : Addr → Int × Int), v = .ref l ∧ H1 l = some (.lst (ts.map V.ref)) ∧ Wide3 H1 ts k ∧ Tabs T H1 ∧
  ∀ (ys : List Addr) (H' : Hp) (p : Addr), SrtO.Srtd (fun x y => SrtO.lexB (k x) (k y)) ys → SrtO.Stb (fun x y => SrtO.lexB (k x) (k y)) ys ts → ExtN H1 H' → Tabs T H' → (∀ b o, H1 b = some o → (∀ ps, o ≠ .tbl ps) → b ≠ p) → H' p = some (.lst (ys.map V.ref)) → Q (.ref p) H'
section
variable {X : Cx}
theorem pe_sortedLam {T : List (Addr × Str)} {c P : Addr} {params : Arguments} {body : Expr} {scope : Scope} {x : Str} {e : Expr} {te tb : TE} {p lpos kpos pos : Pos} (TB : TabB X.base X.mg c P) (hcode : X.env.code = .ref c) (hmT : (P, X.env.qual ++ "<lambda>") ∈ T) (hu : ∀ p ∈ T, p.1 = P → p.2 = X.env.qual ++ "<lambda>")
    (hr : Room 3 X.A) (hg : Gl X "sorted") (hm : X.mg "sorted" = none) (S : NScope [x] [x] [] scope) (hdef : defaultsOf params X.env = ([], [])) (hclo : cloFrom X.env.cells scope.names [] = [])
    (hbind : ∀ (q : Str) (pm cv ctv u : Value), bindArgs (PySem.W.kla_fn "<lambda>" q params body scope [] pm cv ctv) ⟨[u], []⟩ = pure [(x, u)])
    (hbody : ∀ (A : Around) (outer : List Env) (s : Shared) (H : Hp) (f c' : Addr), PE (ncx CX0 X.prog X.w X.K X.mg X.base [x] (lamF X params scope c') f A outer s H E0) body tb)
    (ht : ∀ (t : Addr) (i j n : Int) (Hk : Hp) (Q : VK), Hk t = some (.tup [.int i, .int j, .int n]) → (∀ q, Hk q = none → Q (.ref q) (upd Hk q (.tup [.int i, .int j]))) → tb [some (.ref t)] Hk Q)
    (he : PE X e te) (hst : starEach [e] X.env = (false, eval e X.env) :: starEach [] X.env := by rfl)
    (hb2 : backTo pos (starEach [e] X.env) = (false, eval e X.env) :: backTo pos (starEach [] X.env) := by rfl) (hpl : (backTo pos (starEach [e] X.env)).any (·.1) = false := by rfl) :
    PE X (.Call (.Name "sorted" p) [e] [⟨some "key", .Lambda params body scope lpos, kpos⟩] pos) (tSortL T te) := by
  refine ⟨fun pins s σ H Q I h => ?_⟩
  refine wpAny_Call_Name_kw (ld_blt I hg hm (show bootBuiltins "sorted" = some (.builtin "sorted") by decide +kernel) ?_ (by decide) (by decide))
  have ha : PA X [e] (tCons te tNil) := pa_cons he pa_nil hst
  refine PyProof.Rows.callWith_kw (thn (ha.run pos pins s σ H (fun vs H1 => match vs with
    | [v] => (∃ (l : Addr) (ts : List Addr) (k : Addr → Int × Int), v = .ref l ∧ H1 l = some (.lst (ts.map V.ref)) ∧ Wide3 H1 ts k ∧ Tabs T H1 ∧
      ∀ (ys : List Addr) (H' : Hp) (p : Addr), SrtO.Srtd (fun x y => SrtO.lexB (k x) (k y)) ys → SrtO.Stb (fun x y => SrtO.lexB (k x) (k y)) ys ts → ExtN H1 H' → Tabs T H' → (∀ b o, H1 b = some o → (∀ ps, o ≠ .tbl ps) → b ≠ p) → H' p = some (.lst (ys.map V.ref)) → Q (.ref p) H')
    | _ => False) I h) fun us s1 ⟨vs, H1, I1, r1, q1⟩ => ?_) hb2 hpl rfl rfl
  match vs, r1, q1 with
  | [v], r1, q1 =>
    obtain ⟨l, ts, k, rfl, hl, hw, hT, q⟩ := q1
    obtain ⟨u0, rfl, ra⟩ := vals1 r1
    obtain rfl : u0 = Value.ref l := ra
    show wpAny _ _ (evalAll ((do let v ← eval (.Lambda params body scope lpos) X.env; standAt pos; pure v) :: (backToKw pos (keywordEach [] X.env)).map (·.2))) _ _ s1
    refine wpAny_evalAll_cons (wpAny_bind (lam_make2 I1 TB hcode hmT hu hT hdef (fun y hy hf => absurd (S.free y hy hf) (by simp)) fun f c' pm ctv H2 s2 I2 eN T2 hf hfn hfr hco => wpAny_bind (wpAny_standAt (wpAny_pure ?_))))
    refine wpAny_evalAll_nil ?_
    rw [hclo] at hf
    have hl2 := eN _ _ hl (fun ps z => by cases z)
    have hw2 : Wide3 H2 ts k := fun t ht => by
      obtain ⟨n, hn⟩ := hw t ht
      exact ⟨n, eN _ _ hn (fun ps z => by cases z)⟩
    refine sorted_lam I2 (SqL.of hl2) hf hfn hfr (lam_turn hr S hco hw2 hfr (fun u => hbind _ _ _ _ u) (fun A outer s H => hbody A outer s H f c') ht) fun ys H' p h1 h2 ext hp hp2 => ?_
    exact q ys H' p h1 h2 (eN.trans (ExtN.of ext)) (T2.ext ext) (fun b o h1 h2 => ne_of_none (eN b o h1 h2) hp) hp2
end
end Wv
end WvSort2_
section WvG4_
set_option Elab.async false
set_option linter.all false
set_option maxRecDepth 100000
set_option maxHeartbeats 4000000
namespace Wv
open PySem L2
open SX (S S_len S_inj)
local macro_rules | `(tactic| walk_at "rd") => `(tactic| (try simp only [tVar, tC, tB, tAnd, tOr, tNot, tAndV, tOrV, tNotV, tIf, tNext, tSeq, tBreak, tCont, tDrop, tRet, tRetN, tIfS, gName, gNil, gCons, gTup, gSub, tAsg, tPar, tAug, tOp, tUn, rI, rI0, rU, rEq, rNe, tTest, tFld, tNil, tCons, tTup, tLst, tCB, tNoPart, tPart, tSl, rIxL, rIxT, rIxS, rSlL, rSlS, tBM0, tBM, rAppend, rExtend, rCat, rRep, rSetL, tM0, tM1, tCall, tMeth, tMake, sFld, sFldAug, rAdd, rSub, ipI, tBM0,
  scal_ss, scal_ii, scal_bb, scal_ns, scal_sn, scal_nn, tyV_str, L2.start, List.map_cons, List.map_nil, List.length_cons, List.length_nil, List.replicate, List.cons_append, List.nil_append, List.append_nil, List.getElem?_cons_zero, List.getElem?_cons_succ, List.set_cons_zero, List.set_cons_succ, Nat.reduceAdd, Nat.reduceSub, Nat.zero_add, Nat.sub_self, Nat.add_one_sub_one,
  Option.some.injEq, exists_eq_left, exists_eq_left', exists_eq', exists_eq, V.int.injEq, V.str.injEq, V.ref.injEq, V.bl.injEq, reduceCtorEq, List.cons.injEq, and_true, true_and, exists_and_left, exists_and_right, and_assoc, decide_true, decide_false, if_true, if_false, ite_true, ite_false, Bool.false_eq_true, Bool.true_eq_false, eq_self_iff_true, cx_K, nox_K, tMkSyn, tMkChk, tYes, bne, ne_eq, not_false_eq_true, not_true_eq_false, Bool.not_true, Bool.not_false, decide_eq_true_eq, Bool.not_eq_true', decide_eq_false_iff_not]))
open LamX
/-! ### the garden's mirror, further -/
abbrev Tri := Nat × Nat × Nat
def kTri (x : Tri) : Int × Int := ((x.1 : Nat), (x.2.1 : Nat))
abbrev ltT (x y : Tri) : Bool := SrtO.lexB (kTri x) (kTri y)
def insT (x : Tri) : List Tri → List Tri
  | [] => [x]
  | y :: r => if ltT y x then y :: insT x r else x :: y :: r
def sortT (l : List Tri) : List Tri := l.foldr insT []
theorem ltT_swo : SrtO.Swo ltT := swoK kTri
theorem insT_perm (x : Tri) : ∀ l, (insT x l).Perm (x :: l)
  | [] => List.Perm.refl _
  | y :: r => by
    unfold insT
    split
    · exact (List.Perm.cons y (insT_perm x r)).trans (List.Perm.swap x y r)
    · exact List.Perm.refl _
theorem insT_srtd (x : Tri) : ∀ l, SrtO.Srtd ltT l → SrtO.Srtd ltT (insT x l)
  | [], _ => List.pairwise_singleton _ _
  | y :: r, h => by
    have hc := List.pairwise_cons.mp h
    unfold insT
    split
    · rename_i hyx
      refine List.pairwise_cons.mpr ⟨fun z hz => ?_, insT_srtd x r hc.2⟩
      rcases List.mem_cons.mp ((insT_perm x r).mem_iff.mp hz) with e | hz
      · rw [e]
        exact ltT_swo.asym _ _ hyx
      · exact hc.1 z hz
    · rename_i hyx
      have hyx : ltT y x = false := by simpa using hyx
      refine List.pairwise_cons.mpr ⟨fun z hz => ?_, h⟩
      rcases List.mem_cons.mp hz with e | hz
      · rw [e]
        exact hyx
      · exact ltT_swo.tr x y z hyx (hc.1 z hz)
theorem insT_cls (x : Tri) : ∀ l (z : Tri), (insT x l).filter (SrtO.eqv ltT z) = (x :: l).filter (SrtO.eqv ltT z)
  | [], z => rfl
  | y :: r, z => by
    unfold insT
    split
    · rename_i hyx
      rw [List.filter_cons, insT_cls x r z]
      by_cases h1 : SrtO.eqv ltT z y = true
      · by_cases h2 : SrtO.eqv ltT z x = true
        · exfalso
          obtain ⟨a1, a2⟩ := SrtO.eqv_iff.mp h1
          obtain ⟨b1, b2⟩ := SrtO.eqv_iff.mp h2
          have h3 : ltT y x = false := by first | exact ltT_swo.tr x z y b1 a2 | exact ltT_swo.tr x z y b2 a1 | exact ltT_swo.tr x z y b1 a1 | exact ltT_swo.tr x z y b2 a2
          rw [h3] at hyx
          cases hyx
        · simp [List.filter_cons, h1, h2]
      · by_cases h2 : SrtO.eqv ltT z x = true
        · simp [List.filter_cons, h1, h2]
        · simp [List.filter_cons, h1, h2]
    · rfl
theorem sortT_srtd : ∀ l, SrtO.Srtd ltT (sortT l)
  | [] => List.Pairwise.nil
  | x :: r => insT_srtd x _ (sortT_srtd r)
theorem sortT_stb : ∀ l, SrtO.Stb ltT (sortT l) l
  | [] => SrtO.Stb.refl _
  | x :: r => by
    have ih := sortT_stb r
    refine ⟨(insT_perm x _).trans (List.Perm.cons x ih.perm), fun z => ?_⟩
    show (insT x (sortT r)).filter _ = _
    rw [insT_cls, List.filter_cons, List.filter_cons, ih.cls]
theorem sortT_uniq {l m : List Tri} (h1 : SrtO.Srtd ltT l) (h2 : SrtO.Stb ltT l m) : l = sortT m :=
  SrtO.stb_uniq ltT_swo h1 (sortT_srtd m) ⟨h2.perm.trans (sortT_stb m).perm.symm, fun z => (h2.cls z).trans ((sortT_stb m).cls z).symm⟩
structure WGard where
  period : Nat
  limit : Nat
  names : List (List Nat)
  rank : List Nat
  starts : List Tri
  dry : List Bool
def addR (r : List (List (Nat × Nat))) (x : Tri) : List (List (Nat × Nat)) := r.set x.1 ((r.getD x.1 []) ++ [x.2])
def reqsOf (period : Nat) (l : List Tri) : List (List (Nat × Nat)) := l.foldl addR (List.replicate period [])
theorem addR_len (r : List (List (Nat × Nat))) (x : Tri) : (addR r x).length = r.length := List.length_set ..
theorem reqsF_len : ∀ (l : List Tri) (r : List (List (Nat × Nat))), (l.foldl addR r).length = r.length
  | [], r => rfl
  | x :: l, r => by rw [List.foldl_cons, reqsF_len l, addR_len]
/-! ### how a garden lies in the heap -/
def PairAt (H : Hp) (a : Addr) (x : Nat × Nat) : Prop := H a = some (.tup [.int (x.1 : Nat), .int (x.2 : Nat)])
def RowAt (H : Hp) (a : Addr) (l : List (Nat × Nat)) : Prop := ∃ bs : List Addr, H a = some (.lst (bs.map V.ref)) ∧ Each (PairAt H) bs l
def ReqAt (H : Hp) (ql : Addr) (qas : List Addr) (r : List (List (Nat × Nat))) : Prop := H ql = some (.lst (qas.map V.ref)) ∧ Each (RowAt H) qas r ∧ qas.Nodup ∧ ql ∉ qas
structure GardAt (CG : Addr) (H : Hp) (g : Addr) (G : WGard) : Prop where
  ex : ∃ (dx nl rl sl dl ql : Addr) (sas qas : List Addr), H g = some (.ins CG dx [("period", .int (G.period : Nat)), ("limit", .int (G.limit : Nat)), ("names", .ref nl), ("rank", .ref rl), ("starts", .ref sl), ("dry", .ref dl), ("requests", .ref ql)]) ∧
    H nl = some (.lst (G.names.map fun n => V.str (S n))) ∧ H rl = some (.lst (G.rank.map fun v => V.int (v : Nat))) ∧ H sl = some (.lst (sas.map V.ref)) ∧ Each (TriAt H) sas G.starts ∧ H dl = some (.lst (G.dry.map V.bl)) ∧ ReqAt H ql qas (reqsOf G.period G.starts)
/-- what stood stands, tables of code objects and the object p aside -/
def SameN (p : Addr) (H H' : Hp) : Prop := ∀ b o, b ≠ p → H b = some o → (∀ ps, o ≠ .tbl ps) → H' b = some o
theorem tabs_mut {T : List (Addr × Str)} {H H' : Hp} {p : Addr} {o0 : HO} (t : Tabs T H) (hp : H p = some o0) (h1 : ∀ ps, o0 ≠ .tbl ps) (h2 : ∀ c q, o0 ≠ CodeO c q) (e : ∀ b o, b ≠ p → H b = some o → H' b = some o) : Tabs T H' := fun x hx => by
  obtain ⟨ps, a1, a2, a3⟩ := t x hx
  refine ⟨ps, e _ _ (fun z => by rw [z, hp] at a1; exact h1 ps (Option.some.inj a1)) a1, a2, fun pos cv hc => ?_⟩
  obtain ⟨c, b1, b2⟩ := a3 pos cv hc
  exact ⟨c, b1, e _ _ (fun z => by rw [z, hp] at b2; exact h2 _ _ (Option.some.inj b2)) b2⟩
theorem tabs_ins {T : List (Addr × Str)} {H H' : Hp} {p C dx : Addr} {fs : List (Str × V)} (t : Tabs T H) (hp : H p = some (.ins C dx fs)) (e : ∀ b o, b ≠ p → H b = some o → H' b = some o) : Tabs T H' :=
  tabs_mut t hp (fun ps z => by cases z) (fun c q z => by unfold CodeO at z; cases z) e

end Wv
end WvG4_
section WvG5_
set_option Elab.async false
set_option linter.all false
set_option maxRecDepth 100000
set_option maxHeartbeats 4000000
namespace Wv
open PySem L2
open SX (S S_len S_inj)
local macro_rules | `(tactic| walk_at "rd") => `(tactic| (try simp only [tVar, tC, tB, tAnd, tOr, tNot, tAndV, tOrV, tNotV, tIf, tNext, tSeq, tBreak, tCont, tDrop, tRet, tRetN, tIfS, gName, gNil, gCons, gTup, gSub, tAsg, tPar, tAug, tOp, tUn, rI, rI0, rU, rEq, rNe, tTest, tFld, tNil, tCons, tTup, tLst, tCB, tNoPart, tPart, tSl, rIxL, rIxT, rIxS, rSlL, rSlS, tBM0, tBM, rAppend, rExtend, rCat, rRep, rSetL, tM0, tM1, tCall, tMeth, tMake, sFld, sFldAug, rAdd, rSub, ipI, tBM0,
  scal_ss, scal_ii, scal_bb, scal_ns, scal_sn, scal_nn, tyV_str, L2.start, List.map_cons, List.map_nil, List.length_cons, List.length_nil, List.replicate, List.cons_append, List.nil_append, List.append_nil, List.getElem?_cons_zero, List.getElem?_cons_succ, List.set_cons_zero, List.set_cons_succ, Nat.reduceAdd, Nat.reduceSub, Nat.zero_add, Nat.sub_self, Nat.add_one_sub_one,
  Option.some.injEq, exists_eq_left, exists_eq_left', exists_eq', exists_eq, V.int.injEq, V.str.injEq, V.ref.injEq, V.bl.injEq, reduceCtorEq, List.cons.injEq, and_true, true_and, exists_and_left, exists_and_right, and_assoc, decide_true, decide_false, if_true, if_false, ite_true, ite_false, Bool.false_eq_true, Bool.true_eq_false, eq_self_iff_true, cx_K, nox_K, tMkSyn, tMkChk, tYes, bne, ne_eq, not_false_eq_true, not_true_eq_false, Bool.not_true, Bool.not_false, decide_eq_true_eq, Bool.not_eq_true', decide_eq_false_iff_not]))
open LamX
/-- a def of the text whose code object is known -/
structure FunC (K : PySem.W.Frag) (x qual : Str) (st : Stmt) (f : Addr) (fd : FuncData) (c : Addr) : Prop where
  ex : ∃ (oc : Value) (od : Option Addr) (kV doc pm : Value) (an : Option Addr) (ct : Value) (osl : Array (Option Value)),
    fd = PySem.W.fnOf x qual (defArgs st) (defBody st) (defScope st) .none kV doc pm an (.ref c) ct ∧ K.lookup f = some ⟨oc, od, .func fd, osl⟩ ∧ PySem.W.codeIn K (.ref c) qual = true
section
variable {P : Program} {w : World} {K : PySem.W.Frag} {mg : Str → Option Value} {base : Heap}
theorem FunC.ok {x qual : Str} {st : Stmt} {f c : Addr} {fd : FuncData} {N ps : List Str} {k : Nat} {sp : Sp} (F : FunC K x qual st f fd c) (S : FnScope N ps (defScope st)) (len : ∀ vs H Q E, sp vs H Q E → vs.length = ps.length)
    (hbody : ∀ (A : Around) (outer : List Env) (s : Shared) (H : Hp) (vs : List V) (Q : VK) (E : XK), Room k (A.deeper (PyProof.Rows.envOfC qual (defScope st) s.heap.objs.size f (.ref c))) → sp vs H Q E →
      ∃ t, PSs (cxOf CX0 P w K mg base N qual (defScope st) f (.ref c) A outer s H E).nox (defBody st) t ∧ t { nx := fun _ H' => Q .non H', rt := Q } (L2.start N vs) H) : FnOk P w K mg base CX0 (k + 1) f fd ps sp := by
  obtain ⟨oc, od, kV, doc, pm, an, ct, osl, rfl, lk, hcd⟩ := F.ex
  refine fn_of lk hcd S len fun A outer s H vs Q E hr hsp => ?_
  obtain ⟨t, h, q⟩ := hbody A outer s H vs Q E hr hsp
  exact ⟨t, h.nox, q⟩
def tPair (K : PySem.W.Frag) : TE := tTup (tCons (tOp (rIxT K) (tVar 0) (tC (.int 0))) (tCons (tOp (rIxT K) (tVar 0) (tC (.int 1))) tNil))
theorem tPair_ok (t : Addr) (i j n : Int) (Hk : Hp) (Q : VK) (h : Hk t = some (.tup [.int i, .int j, .int n])) (k : ∀ q, Hk q = none → Q (.ref q) (upd Hk q (.tup [.int i, .int j]))) : tPair K [some (.ref t)] Hk Q := by
  exact ⟨_, rfl, t, _, 0, .int i, rfl, rfl, SqT.of h, rfl, _, rfl, t, _, 1, .int j, rfl, rfl, SqT.of h, rfl, (by decide +kernel : (2 : Nat) ≤ sizeLine), k⟩
theorem tris_of {H : Hp} {as : List Addr} {st : List Tri} (h : Each (TriAt H) as st) : ∃ fv : Addr → Tri, st = as.map fv ∧ ∀ a ∈ as, H a = some (.tup (vTri (fv a))) := by
  refine ⟨fun a => match H a with
    | some (.tup [.int i, .int j, .int n]) => (i.toNat, j.toNat, n.toNat)
    | _ => (0, 0, 0), ?_, fun a ha => ?_⟩
  · refine List.ext_getElem? fun i => ?_
    rw [List.getElem?_map]
    cases ha : as[i]? with
    | none =>
      have := List.getElem?_eq_none_iff.mp ha
      exact List.getElem?_eq_none_iff.mpr (by rw [← h.1]; exact this)
    | some a =>
      have hi : i < st.length := by rw [← h.1]; exact (List.getElem?_eq_some_iff.mp ha).1
      have hx := h.2 i a _ ha (List.getElem?_eq_getElem hi)
      unfold TriAt vTri at hx
      rw [List.getElem?_eq_getElem hi]
      simp only [Option.map_some, hx]
      rfl
  · obtain ⟨i, hi⟩ := List.mem_iff_getElem?.mp ha
    have hl : i < st.length := by rw [← h.1]; exact (List.getElem?_eq_some_iff.mp hi).1
    have hx := h.2 i a _ hi (List.getElem?_eq_getElem hl)
    unfold TriAt at hx
    simp only [hx]
    rfl
theorem reqsF_row (m : Nat) : ∀ (l : List Tri) (r : List (List (Nat × Nat))), (∀ x ∈ r, x.length ≤ m) → ∀ x ∈ l.foldl addR r, x.length ≤ m + l.length
  | [], r, h, x, hx => h x hx
  | t :: l, r, h, x, hx => by
    rw [List.foldl_cons] at hx
    have := reqsF_row (m + 1) l (addR r t) (fun y hy => by
      unfold addR at hy
      rcases List.mem_or_eq_of_mem_set hy with hy | rfl
      · exact Nat.le_succ_of_le (h y hy)
      · rw [List.length_append, List.getD_eq_getElem?_getD]
        cases z : r[t.1]? with
        | none => simp
        | some y => simpa using h y (List.mem_of_getElem? z)) x hx
    rw [List.length_cons]
    omega
theorem row_of {H : Hp} {qas : List Addr} {r : List (List (Nat × Nat))} (h : Each (RowAt H) qas r) {a : Addr} (ha : a ∈ qas) : ∃ bs : List V, H a = some (.lst bs) := by
  obtain ⟨i, hi⟩ := List.mem_iff_getElem?.mp ha
  have hl : i < r.length := by rw [← h.1]; exact (List.getElem?_eq_some_iff.mp hi).1
  obtain ⟨bs, hb, _⟩ := h.2 i a _ hi (List.getElem?_eq_getElem hl)
  exact ⟨_, hb⟩
theorem tabs_but {T : List (Addr × Str)} {H H' : Hp} (t : Tabs T H) (e : ∀ b o, H b = some o → (∀ xs, o ≠ .lst xs) → H' b = some o) : Tabs T H' := fun x hx => by
  obtain ⟨ps, a1, a2, a3⟩ := t x hx
  refine ⟨ps, e _ _ a1 (fun xs z => by cases z), a2, fun pos cv hc => ?_⟩
  obtain ⟨c, b1, b2⟩ := a3 pos cv hc
  exact ⟨c, b1, e _ _ b2 (fun xs z => by unfold CodeO at z; cases z)⟩
def IGi (p nl rl sl dl D : Addr) (pd lm : Nat) (qas : List Addr) (st : List Tri) (H5 : Hp) (i : Nat) (σ : L2.St) (H' : Hp) : Prop := ∃ v7 v8 v9 v10 : Option V, σ = [some (.ref p), some (.int (pd : Nat)), some (.int (lm : Nat)), some (.ref nl), some (.ref rl), some (.ref sl), some (.ref dl), v7, v8, v9, v10] ∧
  (∀ b o, b ∉ qas → H5 b = some o → H' b = some o) ∧ ReqAt H' D qas ((st.take i).foldl addR (List.replicate pd []))
theorem sc_Garden___init__ : FnScope ["self", "period", "limit", "names", "rank", "starts", "dry", "_", "tick", "valve", "water"] ["self", "period", "limit", "names", "rank", "starts", "dry"] (defScope s_Garden___init__) := ⟨rfl, rfl, rfl, by decide +kernel, rfl, by decide +kernel, by decide +kernel⟩
def sp_Garden___init__ (CG : Addr) (TT : List (Addr × Str)) : Sp := fun vs H Q _ => ∃ (p dx nl rl sl dl : Addr) (pd lm : Nat) (ns : List (List Nat)) (rk : List Nat) (as : List Addr) (st : List Tri) (dr : List Bool),
  vs = [.ref p, .int (pd : Nat), .int (lm : Nat), .ref nl, .ref rl, .ref sl, .ref dl] ∧ H p = some (.ins CG dx []) ∧ H nl = some (.lst (ns.map fun n => V.str (S n))) ∧ H rl = some (.lst (rk.map fun v => V.int (v : Nat))) ∧ H sl = some (.lst (as.map V.ref)) ∧ Each (TriAt H) as st ∧ H dl = some (.lst (dr.map V.bl)) ∧
  pd ≤ 60 ∧ (∀ x ∈ st, x.1 < pd) ∧ st.length ≤ 50000 ∧ Tabs TT H ∧
  ∀ H', SameN p H H' → Tabs TT H' → GardAt CG H' p ⟨pd, lm, ns, rk, sortT st, dr⟩ → Q .non H'
theorem ok_Garden___init__ {f CG cg PG : Addr} {fd : FuncData} {TT : List (Addr × Str)} (F : FunC K "__init__" "Garden.__init__" s_Garden___init__ f fd cg) (T : TopF w K mg) (TG : CGarden K CG)
    (TB : TabB base mg cg PG) (hmT : (PG, lamQ) ∈ TT) (hu : ∀ p ∈ TT, p.1 = PG → p.2 = lamQ) :
    FnOk P w K mg base CX0 4 f fd ["self", "period", "limit", "names", "rank", "starts", "dry"] (sp_Garden___init__ CG TT) := by
  refine F.ok sc_Garden___init__ (fun vs H Q E h => ?_) (fun A outer s H vs Q E hr h => ?_)
  · obtain ⟨p, dx, nl, rl, sl, dl, pd, lm, ns, rk, as, st, dr, rfl, _⟩ := h
    rfl
  · obtain ⟨p, dx, nl, rl, sl, dl, pd, lm, ns, rk, as, st, dr, rfl, hp, hnl, hrl, hsl, hE, hdl, h60, htk, hl, hT, k⟩ := h
    refine ⟨_, (pss_cons (ps_fld (pv 0) (pv 1) rfl)
      (pss_cons (ps_fld (pv 0) (pv 2) rfl)
      (pss_cons (ps_fld (pv 0) (pv 3) rfl)
      (pss_cons (ps_fld (pv 0) (pv 4) rfl)
      (pss_cons (ps_fld (pv 0) (pe_sortedLam (T := TT) (tb := tPair K) TB rfl hmT hu (hr.mono (by decide)) rfl T.z_sorted (NdefX.nscope_by (by decide +kernel)) rfl rfl (fun _ _ _ _ _ => rfl) (fun _ _ _ _ _ _ => (pe_tup (pa_cons (pe_ix ix_tup (pv 0) pe_int (fun _ _ => rfl)) (pa_cons (pe_ix ix_tup (pv 0) pe_int (fun _ _ => rfl)) pa_nil)))) tPair_ok (pv 5)) rfl)
      (pss_cons (ps_fld (pv 0) (pv 6) rfl)
      (pss_cons (ps_fld (pv 0) (pe_lc (own := [("_", 7)]) (g := gName 7) (tt := tYes) (te := (tLst tNil)) rfl sc_Garden___init__.nd (pi_range1 (by rfl) T.z_range (pa_cons (pv 1) pa_nil)) (blkOk_by (N := ["self", "period", "limit", "names", "rank", "starts", "dry", "_", "tick", "valve", "water"]) (sc := defScope s_Garden___init__) (by decide +kernel)) (fun _ _ _ _ _ => (pg_name (i := 7) sc_Garden___init__.nd rfl (Or.inl rfl))) (fun _ _ _ _ _ => pts_nil) (fun _ _ _ _ _ => (pe_lst pa_nil))) rfl)
      (pss_one (ps_for PassesOwn.never rfl (pi_list (pe_fld (pv 0) rfl)) (pg_tup (by rfl) (pgs_cons (pg_name (i := 8) sc_Garden___init__.nd rfl (Or.inl rfl)) (pgs_cons (pg_name (i := 9) sc_Garden___init__.nd rfl (Or.inl rfl)) (pgs_cons (pg_name (i := 10) sc_Garden___init__.nd rfl (Or.inl rfl)) pgs_nil)))) (pss_one (ps_expr (pe_bm PySem.F.plainAttrs_list PySem.F.slot_list_append PySem.F.type_list_append mt_append (pe_ix ix_list (pe_fld (pv 0) rfl) (pv 8) (fun _ _ => rfl)) (pa_cons (pe_tup (pa_cons (pv 9) (pa_cons (pv 10) pa_nil))) pa_nil))))))))))))), ?_⟩
    walk_at "rd"
    simp only [hp, TG.cl, TG.n1, TG.n2, TG.n3, TG.n4, V.ref.injEq, V.int.injEq, V.str.injEq, List.cons.injEq, Option.some.injEq, HO.ins.injEq, and_assoc, exists_and_left, exists_eq_left', exists_eq_left, true_and, and_true, upd_same, upd_upd, putF_nil, putF_cons, lookup_put, lookup_nil, if_false, if_true, List.length_cons, List.length_nil, exists_eq', exists_eq, Nat.reduceAdd, Nat.reduceLT, Nat.zero_add, n_period_limit, n_period_names, n_period_rank, n_period_starts, n_period_dry, n_period_requests, n_limit_period, n_limit_names, n_limit_rank, n_limit_starts, n_limit_dry, n_limit_requests, n_names_period, n_names_limit, n_names_rank, n_names_starts, n_names_dry, n_names_requests, n_rank_period, n_rank_limit, n_rank_names, n_rank_starts, n_rank_dry, n_rank_requests, n_starts_period, n_starts_limit, n_starts_names, n_starts_rank, n_starts_dry, n_starts_requests, n_dry_period, n_dry_limit, n_dry_names, n_dry_rank, n_dry_starts, n_dry_requests, n_requests_period, n_requests_limit, n_requests_names, n_requests_rank, n_requests_starts, n_requests_dry]
    have hsl1 : (upd H p (.ins CG dx [("period", .int (pd : Nat)), ("limit", .int (lm : Nat)), ("names", .ref nl), ("rank", .ref rl)])) sl = some (.lst (as.map V.ref)) := by
      rw [upd_ne (ne_of hsl hp (by intro z; cases z))]
      exact hsl
    have up1 : ∀ b o, b ≠ p → H b = some o → (upd H p (.ins CG dx [("period", .int (pd : Nat)), ("limit", .int (lm : Nat)), ("names", .ref nl), ("rank", .ref rl)])) b = some o := fun b o n e => by rw [upd_ne n]; exact e
    have hT1 : Tabs TT (upd H p (.ins CG dx [("period", .int (pd : Nat)), ("limit", .int (lm : Nat)), ("names", .ref nl), ("rank", .ref rl)])) := tabs_ins hT hp up1
    have hE1 : Each (TriAt (upd H p (.ins CG dx [("period", .int (pd : Nat)), ("limit", .int (lm : Nat)), ("names", .ref nl), ("rank", .ref rl)]))) as st := hE.imp fun a x h => up1 _ _ (ne_of h hp (by intro z; cases z)) h
    have hp1 : (upd H p (.ins CG dx [("period", .int (pd : Nat)), ("limit", .int (lm : Nat)), ("names", .ref nl), ("rank", .ref rl)])) p = some (.ins CG dx [("period", .int (pd : Nat)), ("limit", .int (lm : Nat)), ("names", .ref nl), ("rank", .ref rl)]) := upd_same
    generalize upd H p (.ins CG dx [("period", .int (pd : Nat)), ("limit", .int (lm : Nat)), ("names", .ref nl), ("rank", .ref rl)]) = H1 at *
    obtain ⟨fv, hst, hfv⟩ := tris_of hE1
    refine ⟨_, rfl, sl, as, fun a => kTri (fv a), rfl, hsl1, fun t ht => ⟨((fv t).2.2 : Nat), hfv t ht⟩, hT1, fun ys H2 q h1 h2 e1 hT2 nq hq => ?_⟩
    have hys : ys.map fv = sortT st := sortT_uniq (SrtO.srtd_map h1) (by rw [hst]; exact SrtO.Stb.map ltT_swo fv h2)
    have e2 : ∀ b o, H1 b = some o → (∀ ps, o ≠ .tbl ps) → H2 b = some o := e1
    have hE2 : Each (TriAt H2) ys (sortT st) := by
      rw [← hys]
      refine ⟨by rw [List.length_map], fun i a x ha hx => ?_⟩
      rw [List.getElem?_map, ha] at hx
      obtain rfl := Option.some.inj hx
      exact e2 _ _ (hfv a (h2.perm.mem_iff.mp (List.mem_of_getElem? ha))) (fun ps z => by cases z)
    have hp2 := e2 _ _ hp1 (fun ps z => by cases z)
    simp only [hp2, TG.cl, TG.n5, TG.n6, V.ref.injEq, V.int.injEq, V.str.injEq, List.cons.injEq, Option.some.injEq, HO.ins.injEq, and_assoc, exists_and_left, exists_eq_left', exists_eq_left, true_and, and_true, upd_same, upd_upd, putF_nil, putF_cons, lookup_put, lookup_nil, if_false, if_true, List.length_cons, List.length_nil, exists_eq', exists_eq, Nat.reduceAdd, Nat.reduceLT, Nat.zero_add, n_period_limit, n_period_names, n_period_rank, n_period_starts, n_period_dry, n_period_requests, n_limit_period, n_limit_names, n_limit_rank, n_limit_starts, n_limit_dry, n_limit_requests, n_names_period, n_names_limit, n_names_rank, n_names_starts, n_names_dry, n_names_requests, n_rank_period, n_rank_limit, n_rank_names, n_rank_starts, n_rank_dry, n_rank_requests, n_starts_period, n_starts_limit, n_starts_names, n_starts_rank, n_starts_dry, n_starts_requests, n_dry_period, n_dry_limit, n_dry_names, n_dry_rank, n_dry_starts, n_dry_requests, n_requests_period, n_requests_limit, n_requests_names, n_requests_rank, n_requests_starts, n_requests_dry]
    have up3 : ∀ b o, b ≠ p → H2 b = some o → (upd H2 p (.ins CG dx [("period", .int (pd : Nat)), ("limit", .int (lm : Nat)), ("names", .ref nl), ("rank", .ref rl), ("starts", .ref q), ("dry", .ref dl)])) b = some o := fun b o n e => by rw [upd_ne n]; exact e
    have hT3 : Tabs TT (upd H2 p (.ins CG dx [("period", .int (pd : Nat)), ("limit", .int (lm : Nat)), ("names", .ref nl), ("rank", .ref rl), ("starts", .ref q), ("dry", .ref dl)])) := tabs_ins hT2 hp2 up3
    have hp3 : (upd H2 p (.ins CG dx [("period", .int (pd : Nat)), ("limit", .int (lm : Nat)), ("names", .ref nl), ("rank", .ref rl), ("starts", .ref q), ("dry", .ref dl)])) p = some (.ins CG dx [("period", .int (pd : Nat)), ("limit", .int (lm : Nat)), ("names", .ref nl), ("rank", .ref rl), ("starts", .ref q), ("dry", .ref dl)]) := upd_same
    generalize upd H2 p (.ins CG dx [("period", .int (pd : Nat)), ("limit", .int (lm : Nat)), ("names", .ref nl), ("rank", .ref rl), ("starts", .ref q), ("dry", .ref dl)]) = H3 at *
    have hq3 := up3 _ _ (ne_of hq hp2 (by intro z; cases z)) hq
    have hE3 : Each (TriAt H3) ys (sortT st) := hE2.imp fun a x h => up3 _ _ (ne_of h hp2 (by intro z; cases z)) h
    have old3 : ∀ b o, b ≠ p → H b = some o → (∀ ps, o ≠ .tbl ps) → H3 b = some o := fun b o n e h => up3 _ _ n (e2 _ _ (up1 _ _ n e) h)
    refine ⟨_, rfl, _, rfl, by omega, by omega, fun D hD => ?_⟩
    rw [Int.toNat_natCast]
    refine lc_range (lo := 0) (fun i H' => ∃ qas : List Addr, H' D = some (.lst (qas.map V.ref)) ∧ qas.length = i ∧ (∀ b o, H3 b = some o → H' b = some o) ∧ (∀ a ∈ qas, H3 a = none ∧ H' a = some (.lst [])) ∧ qas.Nodup ∧ D ∉ qas)
      ⟨[], upd_same, rfl, same_new hD, by simp, List.nodup_nil, by simp⟩ ?_ ?_
    · rintro i H' hi ⟨qas, hQ, hlen, s4, hem, hnd, hDq⟩
      refine ⟨rfl, Nat.zero_le _, fun a ha => ?_⟩
      have haD : a ≠ D := fun e => by rw [e, hQ] at ha; cases ha
      have haq : a ∉ qas := fun e => by rw [(hem a e).2] at ha; cases ha
      refine ⟨_, (upd_ne haD.symm).trans hQ, line_lt (by rw [List.length_map]; omega), qas ++ [a], by rw [upd_same]; simp, by simp [hlen], fun b o e => ?_, fun b hb => ?_, ?_, by simp [hDq, haD.symm]⟩
      · rw [upd_ne (fun z => by rw [z, hD] at e; cases e), upd_ne (fun z => by rw [z] at e; rw [s4 _ _ e] at ha; cases ha)]
        exact s4 b o e
      · rcases List.mem_append.mp hb with hb | hb
        · refine ⟨(hem b hb).1, ?_⟩
          rw [upd_ne (fun z => hDq (by rw [← z]; exact hb)), upd_ne (fun z => haq (by rw [← z]; exact hb))]
          exact (hem b hb).2
        · obtain rfl := List.mem_singleton.mp hb
          refine ⟨?_, by rw [upd_ne haD, upd_same]⟩
          cases z : H3 b with
          | none => rfl
          | some o => rw [s4 _ _ z] at ha; cases ha
      · rw [List.nodup_append]
        refine ⟨hnd, by simp, fun x hx y hy e => ?_⟩
        obtain rfl := List.mem_singleton.mp hy
        exact haq (e ▸ hx)
    · rintro H4 ⟨qas, hQ, hlen, s4, hem, hnd, hDq⟩
      have hp4 := s4 _ _ hp3
      simp only [hp4, TG.cl, TG.n7, V.ref.injEq, V.int.injEq, V.str.injEq, List.cons.injEq, Option.some.injEq, HO.ins.injEq, and_assoc, exists_and_left, exists_eq_left', exists_eq_left, true_and, and_true, upd_same, upd_upd, putF_nil, putF_cons, lookup_put, lookup_nil, if_false, if_true, List.length_cons, List.length_nil, exists_eq', exists_eq, Nat.reduceAdd, Nat.reduceLT, Nat.zero_add, n_period_limit, n_period_names, n_period_rank, n_period_starts, n_period_dry, n_period_requests, n_limit_period, n_limit_names, n_limit_rank, n_limit_starts, n_limit_dry, n_limit_requests, n_names_period, n_names_limit, n_names_rank, n_names_starts, n_names_dry, n_names_requests, n_rank_period, n_rank_limit, n_rank_names, n_rank_starts, n_rank_dry, n_rank_requests, n_starts_period, n_starts_limit, n_starts_names, n_starts_rank, n_starts_dry, n_starts_requests, n_dry_period, n_dry_limit, n_dry_names, n_dry_rank, n_dry_starts, n_dry_requests, n_requests_period, n_requests_limit, n_requests_names, n_requests_rank, n_requests_starts, n_requests_dry]
      have hpq : p ∉ qas := fun e => by rw [(hem p e).1] at hp3; cases hp3
      have hpD : p ≠ D := fun e => by rw [e, hD] at hp3; cases hp3
      have up5 : ∀ b o, b ≠ p → H4 b = some o → (upd H4 p (.ins CG dx [("period", .int (pd : Nat)), ("limit", .int (lm : Nat)), ("names", .ref nl), ("rank", .ref rl), ("starts", .ref q), ("dry", .ref dl), ("requests", .ref D)])) b = some o := fun b o n e => by rw [upd_ne n]; exact e
      have hT5 : Tabs TT (upd H4 p (.ins CG dx [("period", .int (pd : Nat)), ("limit", .int (lm : Nat)), ("names", .ref nl), ("rank", .ref rl), ("starts", .ref q), ("dry", .ref dl), ("requests", .ref D)])) := tabs_ins (hT3.ext s4) hp4 up5
      have hp5 : (upd H4 p (.ins CG dx [("period", .int (pd : Nat)), ("limit", .int (lm : Nat)), ("names", .ref nl), ("rank", .ref rl), ("starts", .ref q), ("dry", .ref dl), ("requests", .ref D)])) p = some (.ins CG dx [("period", .int (pd : Nat)), ("limit", .int (lm : Nat)), ("names", .ref nl), ("rank", .ref rl), ("starts", .ref q), ("dry", .ref dl), ("requests", .ref D)]) := upd_same
      generalize upd H4 p (.ins CG dx [("period", .int (pd : Nat)), ("limit", .int (lm : Nat)), ("names", .ref nl), ("rank", .ref rl), ("starts", .ref q), ("dry", .ref dl), ("requests", .ref D)]) = H5 at *
      have hq5 := up5 _ _ (ne_of hq3 hp3 (by intro z; cases z)) (s4 _ _ hq3)
      have hE5 : Each (TriAt H5) ys (sortT st) := hE3.imp fun a x h => up5 _ _ (ne_of h hp3 (by intro z; cases z)) (s4 _ _ h)
      have hR5 : ReqAt H5 D qas (List.replicate pd []) := by
        refine ⟨up5 _ _ hpD.symm hQ, ⟨by rw [hlen, List.length_replicate], fun i a l ha hl => ?_⟩, hnd, hDq⟩
        rw [List.getElem?_replicate] at hl
        split at hl
        · obtain rfl := Option.some.inj hl
          have hm := List.mem_of_getElem? ha
          exact ⟨[], up5 _ _ (fun z => hpq (z ▸ hm)) (hem a hm).2, Each.nil⟩
        · cases hl
      have old5 : ∀ b o, b ≠ p → H b = some o → (∀ ps, o ≠ .tbl ps) → H5 b = some o := fun b o n e h => up5 _ _ n (s4 _ _ (old3 _ _ n e h))
      have nq5 : ∀ a ∈ qas, H3 a = none := fun a ha => (hem a ha).1
      have s5 : ∀ b o, b ≠ p → H3 b = some o → H5 b = some o := fun b o n e => up5 _ _ n (s4 _ _ e)
      have hqq : q ∉ qas := fun e => by rw [nq5 q e] at hq3; cases hq3
      have hlst : ∀ a ∈ qas, ∃ bs : List V, H5 a = some (.lst bs) := fun a ha => row_of hR5.2.1 ha
      refine ⟨_, rfl, p, CG, dx, _, _, rfl, hp5, TG.cl, TG.n5, by simp only [V.ref.injEq, V.int.injEq, V.str.injEq, List.cons.injEq, Option.some.injEq, HO.ins.injEq, and_assoc, exists_and_left, exists_eq_left', exists_eq_left, true_and, and_true, upd_same, upd_upd, putF_nil, putF_cons, lookup_put, lookup_nil, if_false, if_true, List.length_cons, List.length_nil, exists_eq', exists_eq, Nat.reduceAdd, Nat.reduceLT, Nat.zero_add, n_period_limit, n_period_names, n_period_rank, n_period_starts, n_period_dry, n_period_requests, n_limit_period, n_limit_names, n_limit_rank, n_limit_starts, n_limit_dry, n_limit_requests, n_names_period, n_names_limit, n_names_rank, n_names_starts, n_names_dry, n_names_requests, n_rank_period, n_rank_limit, n_rank_names, n_rank_starts, n_rank_dry, n_rank_requests, n_starts_period, n_starts_limit, n_starts_names, n_starts_rank, n_starts_dry, n_starts_requests, n_dry_period, n_dry_limit, n_dry_names, n_dry_rank, n_dry_starts, n_dry_requests, n_requests_period, n_requests_limit, n_requests_names, n_requests_rank, n_requests_starts, n_requests_dry], q, rfl, ⟨_, SqL.of hq5⟩, ?_⟩
      refine for_it (walk_list (xs := ys.map V.ref)) (IGi p nl rl sl dl D pd lm qas (sortT st) H5) ⟨_, _, _, _, rfl, fun b o _ e => e, hR5⟩ (fun i σ H' _ h => ?_) ?_ ?_
      · obtain ⟨_, _, _, _, _, s6, _⟩ := h
        exact SqL.of (s6 _ _ hqq hq5)
      · rintro i x σ H6 H7 hi ⟨v7, v8, v9, v10, rfl, s6, hR6⟩ ⟨rfl, ex⟩
        rw [List.length_map, hE5.1] at hi
        obtain ⟨a, ha, hTa⟩ := hE5.get hi
        have ex' : x = V.ref a := by
          rw [List.getElem?_map, ha] at ex
          exact (Option.some.inj ex).symm
        subst ex'
        have haq : a ∉ qas := fun e => by
          obtain ⟨bs, hb⟩ := hlst a e
          unfold TriAt at hTa
          rw [hb] at hTa
          cases hTa
        have hTa' := s6 _ _ haq hTa
        have hp6 := s6 _ _ hpq hp5
        have hx1 : (sortT st)[i].1 < pd := htk _ ((sortT_stb st).perm.mem_iff.mp (List.getElem_mem hi))
        have hstep : (((sortT st).take (i + 1)).foldl addR (List.replicate pd [])) = addR (((sortT st).take i).foldl addR (List.replicate pd [])) (sortT st)[i] := by
          rw [List.take_add_one, List.getElem?_eq_getElem hi, List.foldl_append]
          rfl
        have hrl6 : (((sortT st).take i).foldl addR (List.replicate pd [])).length = pd := by rw [reqsF_len, List.length_replicate]
        have hrow : ∀ l ∈ (((sortT st).take i).foldl addR (List.replicate pd [])), l.length ≤ 60000 := fun l hl2 => by
          have h1 := reqsF_row 0 ((sortT st).take i) (List.replicate pd []) (fun l hl => by rw [(List.mem_replicate.mp hl).2]; exact Nat.le_refl _) l hl2
          have h2 : ((sortT st).take i).length ≤ (sortT st).length := by rw [List.length_take]; omega
          have h3 := (sortT_stb st).perm.length_eq
          omega
        generalize (((sortT st).take i).foldl addR (List.replicate pd [])) = rr at *
        generalize (sortT st)[i] = tr at *
        obtain ⟨hR1, hR2, hR3, hR4⟩ := hR6
        obtain ⟨qa, hqa, bs, hb1, hb2⟩ := hR2.get (i := tr.1) (by omega)
        refine ⟨a, _, rfl, SqT.of hTa', rfl, ?_⟩
        walk_at "rd"
        simp only [vTri, hp6, TG.cl, TG.n7, V.ref.injEq, V.int.injEq, V.str.injEq, List.cons.injEq, Option.some.injEq, HO.ins.injEq, and_assoc, exists_and_left, exists_eq_left', exists_eq_left, true_and, and_true, upd_same, upd_upd, putF_nil, putF_cons, lookup_put, lookup_nil, if_false, if_true, List.length_cons, List.length_nil, exists_eq', exists_eq, Nat.reduceAdd, Nat.reduceLT, Nat.zero_add, n_period_limit, n_period_names, n_period_rank, n_period_starts, n_period_dry, n_period_requests, n_limit_period, n_limit_names, n_limit_rank, n_limit_starts, n_limit_dry, n_limit_requests, n_names_period, n_names_limit, n_names_rank, n_names_starts, n_names_dry, n_names_requests, n_rank_period, n_rank_limit, n_rank_names, n_rank_starts, n_rank_dry, n_rank_requests, n_starts_period, n_starts_limit, n_starts_names, n_starts_rank, n_starts_dry, n_starts_requests, n_dry_period, n_dry_limit, n_dry_names, n_dry_rank, n_dry_starts, n_dry_requests, n_requests_period, n_requests_limit, n_requests_names, n_requests_rank, n_requests_starts, n_requests_dry]
        walk_at "rd"
        have hqm := List.mem_of_getElem? hqa
        refine ⟨_, SqL.of hR1, _, atI_nat (by rw [List.getElem?_map, hqa]; rfl), tyV_lst hb1, by decide +kernel, fun t ht => ⟨qa, rfl, bs.map V.ref, ?_, ?_, ?_⟩⟩
        · rw [upd_ne (ne_of_none hb1 ht)]
          exact hb1
        · rw [List.length_map, hb2.1]
          exact line_lt (by have := hrow _ (List.getElem_mem (by omega : tr.1 < rr.length)); omega)
        · have htq : t ∉ qas := fun e => by
            obtain ⟨_, z⟩ := row_of hR2 e
            rw [ht] at z
            cases z
          have pr : ∀ b x, PairAt H7 b x → PairAt (upd (upd H7 t (.tup [.int (tr.2.1 : Nat), .int (tr.2.2 : Nat)])) qa (.lst (bs.map V.ref ++ [.ref t]))) b x := fun b x h => by
            unfold PairAt at h ⊢
            rw [upd_ne (ne_of h hb1 (by intro z; cases z)), upd_ne (ne_of_none h ht)]
            exact h
          refine ⟨_, _, _, _, rfl, fun b o nb e => ?_, ?_, ?_, hR3, hR4⟩
          · have := s6 b o nb e
            rw [upd_ne (fun z => nb (by rw [z]; exact hqm)), upd_ne (ne_of_none this ht)]
            exact this
          · rw [upd_ne (fun z => hR4 (by rw [z]; exact hqm)), upd_ne (ne_of_none hR1 ht)]
            exact hR1
          · rw [hstep]
            refine ⟨by rw [addR_len]; exact hR2.1, fun j b l hb hl => ?_⟩
            unfold addR at hl
            by_cases hj : j = tr.1
            · subst hj
              rw [List.getElem?_set_self (by omega)] at hl
              obtain rfl := Option.some.inj hl
              rw [hqa] at hb
              obtain rfl := Option.some.inj hb
              refine ⟨bs ++ [t], by rw [upd_same]; simp, ?_⟩
              rw [List.getD_eq_getElem?_getD, List.getElem?_eq_getElem (by omega : tr.1 < rr.length), Option.getD_some]
              refine Each.snoc (hb2.imp pr) ?_
              unfold PairAt
              rw [upd_ne (fun z => htq (by rw [z]; exact hqm)), upd_same]
            · rw [List.getElem?_set_ne (Ne.symm hj)] at hl
              obtain ⟨cs, h1, h2⟩ := hR2.2 j b l hb hl
              have hbq : b ≠ qa := fun z => by
                rw [z] at hb
                have := (List.getElem?_inj (by rw [hlen]; exact hx1) hR3).mp (hqa.trans hb.symm)
                omega
              refine ⟨cs, ?_, h2.imp pr⟩
              rw [upd_ne hbq, upd_ne (ne_of_none h1 ht)]
              exact h1
      · rintro σ H6 ⟨v7, v8, v9, v10, rfl, s6, hR6⟩
        rw [List.length_map, hE5.1, List.take_length] at hR6
        have nls : ∀ b o, H5 b = some o → (∀ xs, o ≠ .lst xs) → b ∉ qas := fun b o e h z => by
          obtain ⟨bs, hb⟩ := hlst b z
          rw [hb] at e
          exact h bs (Option.some.inj e).symm
        have nold : ∀ b o, b ≠ p → H b = some o → (∀ ps, o ≠ .tbl ps) → b ∉ qas := fun b o n e h z => by
          have := old3 b o n e h
          rw [nq5 b z] at this
          cases this
        have old6 : SameN p H H6 := fun b o n e h => s6 _ _ (nold b o n e h) (old5 b o n e h)
        refine k H6 old6 (tabs_but hT5 fun b o e h => s6 b o (nls b o e h) e) ⟨dx, nl, rl, q, dl, D, ys, qas, s6 _ _ hpq hp5, old6 _ _ (ne_of hnl hp (by intro z; cases z)) hnl (fun ps z => by cases z), old6 _ _ (ne_of hrl hp (by intro z; cases z)) hrl (fun ps z => by cases z), s6 _ _ hqq hq5,
          hE5.imp fun a x h => s6 _ _ (nls _ _ h (fun xs z => by cases z)) h, old6 _ _ (ne_of hdl hp (by intro z; cases z)) hdl (fun ps z => by cases z), hR6⟩
end

end Wv
end WvG5_
section WvM2_
set_option Elab.async false
set_option linter.all false
set_option maxRecDepth 100000
set_option maxHeartbeats 4000000
namespace Wv
open PySem L2
open SX (S S_len S_inj)
local macro_rules | `(tactic| walk_at "rd") => `(tactic| (try simp only [tVar, tC, tB, tAnd, tOr, tNot, tAndV, tOrV, tNotV, tIf, tNext, tSeq, tBreak, tCont, tDrop, tRet, tRetN, tIfS, gName, gNil, gCons, gTup, gSub, tAsg, tPar, tAug, tOp, tUn, rI, rI0, rU, rEq, rNe, tTest, tFld, tNil, tCons, tTup, tLst, tCB, tNoPart, tPart, tSl, rIxL, rIxT, rIxS, rSlL, rSlS, tBM0, tBM, rAppend, rExtend, rCat, rRep, rSetL, tM0, tM1, tCall, tMeth, tMake, sFld, sFldAug, rAdd, rSub, ipI, tBM0,
  scal_ss, scal_ii, scal_bb, scal_ns, scal_sn, scal_nn, tyV_str, L2.start, List.map_cons, List.map_nil, List.length_cons, List.length_nil, List.replicate, List.cons_append, List.nil_append, List.append_nil, List.getElem?_cons_zero, List.getElem?_cons_succ, List.set_cons_zero, List.set_cons_succ, Nat.reduceAdd, Nat.reduceSub, Nat.zero_add, Nat.sub_self, Nat.add_one_sub_one,
  Option.some.injEq, exists_eq_left, exists_eq_left', exists_eq', exists_eq, V.int.injEq, V.str.injEq, V.ref.injEq, V.bl.injEq, reduceCtorEq, List.cons.injEq, and_true, true_and, exists_and_left, exists_and_right, and_assoc, decide_true, decide_false, if_true, if_false, ite_true, ite_false, Bool.false_eq_true, Bool.true_eq_false, eq_self_iff_true, cx_K, nox_K, tMkSyn, tMkChk, tYes, bne, ne_eq, not_false_eq_true, not_true_eq_false, Bool.not_true, Bool.not_false, decide_eq_true_eq, Bool.not_eq_true', decide_eq_false_iff_not]))
theorem limited_ok {t : WTok} {lo hi : Int} {r : List Nat} {v : Nat} (h : limited t lo hi r = .ok v) : v = num t ∧ lo ≤ ((num t : Nat) : Int) ∧ ((num t : Nat) : Int) ≤ hi := by
  unfold limited at h
  split at h
  · cases h
  · rename_i hc
    cases h
    exact ⟨rfl, by omega, by omega⟩
theorem valvesC_eq : ∀ (ts : List WTok) (ns ms : List (List Nat)), valvesC ts ns = .ok ms → ms = ns ++ ts.map (·.text)
  | [], ns, ms, h => by
    cases h
    simp
  | t :: r, ns, ms, h => by
    unfold valvesC at h
    by_cases h1 : t.text ∈ ns
    · rw [if_pos h1] at h; cases h
    · rw [if_neg h1] at h
      by_cases h2 : ns.length = 8
      · rw [if_pos h2] at h; cases h
      · rw [if_neg h2] at h
        rw [valvesC_eq r _ ms h]
        simp
theorem known_ok {ns : List (List Nat)} {t : WTok} {u : Unit} (h : known ns t = .ok u) : t.text ∈ ns := by
  unfold known at h
  split at h
  · rename_i h1; exact h1
  · cases h
theorem rankC_ok {ns : List (List Nat)} : ∀ (ts : List WTok) (seen r : List (List Nat)), rankC ns ts seen = .ok r → ∀ t ∈ ts, t.text ∈ ns
  | [], _, _, _ => fun t ht => (by cases ht)
  | t :: ts, seen, r, h => by
    unfold rankC at h
    cases e : known ns t with
    | error x => rw [e] at h; cases h
    | ok u =>
      rw [e] at h
      dsimp only at h
      split at h
      · cases h
      · intro x hx
        rcases List.mem_cons.mp hx with rfl | hx
        · exact known_ok e
        · exact rankC_ok ts _ r h x hx
theorem rest_ok {k k' : Chk} {s : WStm} (h : checkC k s = .ok k') (hg : GoodStm s) (hl : s.names.length ≤ 50000) (hk : s.key.text = startK ∨ s.key.text = pauseK ∨ s.key.text = rankK) (h20 : k.starts ≤ 20) :
    RestOk k.names k.period s ∧ k'.names = k.names ∧ k'.period = k.period ∧ k'.starts = k.starts + (start1 k.names s).toList.length ∧ k'.starts ≤ 20 := by
  have nr : s.key.text ≠ roundK := by rcases hk with hk | hk | hk <;> rw [hk] <;> decide
  have no : s.key.text ≠ openK := by rcases hk with hk | hk | hk <;> rw [hk] <;> decide
  have nv : s.key.text ≠ valvesK := by rcases hk with hk | hk | hk <;> rw [hk] <;> decide
  unfold checkC at h
  rw [if_neg nr, if_neg no, if_neg nv] at h
  rcases hk with hk | hk | hk
  · rw [if_pos hk] at h
    unfold startC at h
    split at h
    · cases h
    · rename_i h20'
      obtain ⟨l1, l2⟩ := hg.l2 hk
      obtain ⟨a, ha⟩ : ∃ a, s.names = [a] := by
        match s.names, l1 with
        | [a], _ => exact ⟨a, rfl⟩
      obtain ⟨t, u, htu⟩ : ∃ t u, s.numbers = [t, u] := by
        match s.numbers, l2 with
        | [t, u], _ => exact ⟨t, u, rfl⟩
      rw [ha, htu] at h
      dsimp only at h
      cases e1 : known k.names a with
      | error x => rw [e1] at h; cases h
      | ok y =>
        rw [e1] at h
        dsimp only at h
        cases e2 : limited t 0 ((k.period : Nat) - 1 : Int) tickR with
        | error x => rw [e2] at h; cases h
        | ok v =>
          rw [e2] at h
          dsimp only at h
          cases e3 : limited u 1 30 lengthR with
          | error x => rw [e3] at h; cases h
          | ok v2 =>
            rw [e3] at h
            cases h
            obtain ⟨_, p1, p2⟩ := limited_ok e2
            obtain ⟨_, q1, q2⟩ := limited_ok e3
            refine ⟨⟨hg, fun _ x hx => ?_, fun z => absurd (hk.symm.trans z) (by decide), fun z => absurd (hk.symm.trans z) (by decide), fun _ t' u' htu' => ?_, hl⟩, rfl, rfl, ?_, ?_⟩
            · rw [ha] at hx
              obtain rfl := List.mem_singleton.mp hx
              exact known_ok e1
            · rw [htu] at htu'
              obtain ⟨rfl, rfl⟩ : t = t' ∧ u = u' := by simpa using htu'
              omega
            · rw [start1, if_pos hk, ha, htu]
              rfl
            · show k.starts + 1 ≤ 20
              omega
  · rw [if_neg (by rw [hk]; decide), if_pos hk] at h
    have hs0 : start1 k.names s = none := by rw [start1, if_neg (by rw [hk]; decide)]
    unfold pauseC at h
    obtain ⟨t, u, htu⟩ : ∃ t u, s.numbers = [t, u] := by
      have := hg.l3 hk
      match s.numbers, this with
      | [t, u], _ => exact ⟨t, u, rfl⟩
    rw [htu] at h
    dsimp only at h
    cases e2 : limited u 0 ((k.period : Nat) - 1 : Int) pauseK with
    | error x => rw [e2] at h; cases h
    | ok v =>
      rw [e2] at h
      dsimp only at h
      cases e3 : limited t 0 (v : Nat) pauseK with
      | error x => rw [e3] at h; cases h
      | ok v2 =>
        rw [e3] at h
        cases h
        obtain ⟨rfl, p1, p2⟩ := limited_ok e2
        obtain ⟨_, q1, q2⟩ := limited_ok e3
        refine ⟨⟨hg, fun z => absurd (hk.symm.trans z) (by decide), fun z => absurd (hk.symm.trans z) (by decide), fun _ a b hab => ?_, fun z => absurd (hk.symm.trans z) (by decide), hl⟩, rfl, rfl, by rw [hs0]; rfl, h20⟩
        rw [htu] at hab
        obtain ⟨rfl, rfl⟩ : t = a ∧ u = b := by simpa using hab
        omega
  · rw [if_neg (by rw [hk]; decide), if_neg (by rw [hk]; decide)] at h
    have hs0 : start1 k.names s = none := by rw [start1, if_neg (by rw [hk]; decide)]
    unfold rankS at h
    split at h
    · cases h
    · cases e : rankC k.names s.names [] with
      | error x => rw [e] at h; cases h
      | ok r =>
        rw [e] at h
        cases h
        exact ⟨⟨hg, fun z => absurd (hk.symm.trans z) (by decide), fun _ => rankC_ok _ _ _ e, fun z => absurd (hk.symm.trans z) (by decide), fun z => absurd (hk.symm.trans z) (by decide), hl⟩, rfl, rfl, by rw [hs0]; rfl, h20⟩
theorem rest_all : ∀ {rest : List WStm} {k k' : Chk}, checkAll k rest = .ok k' → (∀ s ∈ rest, GoodStm s ∧ s.names.length ≤ 50000 ∧ (s.key.text = startK ∨ s.key.text = pauseK ∨ s.key.text = rankK)) → k.starts ≤ 20 →
    (∀ s ∈ rest, RestOk k.names k.period s) ∧ k.starts + (startsOf k.names rest).length ≤ 20
  | [], k, k', h, hg, h20 => ⟨fun s hs => (by cases hs), by simpa [startsOf] using h20⟩
  | s :: rest, k, k', h, hg, h20 => by
    unfold checkAll at h
    cases e : checkC k s with
    | error x => rw [e] at h; cases h
    | ok k2 =>
      rw [e] at h
      obtain ⟨g1, g2, g3⟩ := hg s (List.mem_cons_self ..)
      obtain ⟨r1, r2, r3, r4, r5⟩ := rest_ok e g1 g2 g3 h20
      obtain ⟨q1, q2⟩ := rest_all h (fun x hx => hg x (List.mem_cons_of_mem _ hx)) r5
      rw [r2, r3] at q1
      rw [r2, r4] at q2
      refine ⟨fun x hx => ?_, ?_⟩
      · rcases List.mem_cons.mp hx with rfl | hx
        · exact r1
        · exact q1 x hx
      · unfold startsOf at q2 ⊢
        rw [List.filterMap_cons]
        cases z : start1 k.names s with
        | none =>
          rw [z] at q2
          exact q2
        | some y =>
          rw [z] at q2
          show k.starts + ((List.filterMap (start1 k.names) rest).length + 1) ≤ 20
          have : (some y).toList.length = 1 := rfl
          omega
theorem check_good {ss : List WStm} {s0 s1 s2 : WStm} {rest : List WStm} {k : Chk} (h : checkAll ⟨0, [], 0, 0⟩ ss = .ok k) (hg : AllGood ss) (hs : Shape ss s0 s1 s2 rest) :
    (s2.names.map (·.text)).length ≤ 8 ∧ num (s0.numbers.getD 0 s0.key) ≤ 60 ∧ num (s1.numbers.getD 0 s1.key) ≤ 9 ∧ (∀ s ∈ rest, RestOk (s2.names.map (·.text)) (num (s0.numbers.getD 0 s0.key)) s) ∧ (startsOf (s2.names.map (·.text)) rest).length ≤ 20 := by
  obtain ⟨e0, k0, k1, k2, kr, hl⟩ := hs
  subst e0
  obtain ⟨g0, _, _⟩ := hg s0 (by simp)
  obtain ⟨g1, _, _⟩ := hg s1 (by simp)
  obtain ⟨t, ht⟩ : ∃ t, s0.numbers = [t] := by
    have := g0.l1 (.inl k0)
    match s0.numbers, this with
    | [t], _ => exact ⟨t, rfl⟩
  obtain ⟨u, hu⟩ : ∃ t, s1.numbers = [t] := by
    have := g1.l1 (.inr k1)
    match s1.numbers, this with
    | [t], _ => exact ⟨t, rfl⟩
  unfold checkAll at h
  unfold checkC at h
  rw [if_pos k0, ht] at h
  dsimp only at h
  cases e1 : limited t 1 60 roundK with
  | error x => rw [e1] at h; cases h
  | ok v =>
    rw [e1] at h
    dsimp only at h
    unfold checkAll at h
    unfold checkC at h
    rw [if_neg (by rw [k1]; decide), if_pos k1, hu] at h
    dsimp only at h
    cases e2 : limited u 1 9 openK with
    | error x => rw [e2] at h; cases h
    | ok v2 =>
      rw [e2] at h
      dsimp only at h
      unfold checkAll at h
      unfold checkC at h
      rw [if_neg (by rw [k2]; decide), if_neg (by rw [k2]; decide), if_pos k2] at h
      cases e3 : valvesC s2.names [] with
      | error x => rw [e3] at h; cases h
      | ok ns =>
        rw [e3] at h
        dsimp only at h
        obtain ⟨rfl, p1, p2⟩ := limited_ok e1
        obtain ⟨_, q1, q2⟩ := limited_ok e2
        have hns := valvesC_eq _ _ _ e3
        rw [List.nil_append] at hns
        subst hns
        have h8 := valvesC_len _ _ _ e3 (Nat.zero_le _)
        obtain ⟨r1, r2⟩ := rest_all h (fun s hs => ⟨(hg s (by simp [hs])).1, (hg s (by simp [hs])).2.2, kr s hs⟩) (Nat.zero_le _)
        rw [ht, hu]
        refine ⟨h8, ?_, ?_, r1, by simpa using r2⟩
        · show num t ≤ 60
          omega
        · show num u ≤ 9
          omega
theorem starts_lt {ns : List (List Nat)} {pd : Nat} : ∀ {ss : List WStm}, (∀ s ∈ ss, RestOk ns pd s) → ∀ x ∈ startsOf ns ss, x.1 < pd ∧ x.2.1 < ns.length ∧ x.2.2 ≤ 30 := fun {ss} h x hx => by
  unfold startsOf at hx
  obtain ⟨s, hs, e⟩ := List.mem_filterMap.mp hx
  have hR := h s hs
  unfold start1 at e
  split at e
  · rename_i hk
    obtain ⟨l1, l2⟩ := hR.g.l2 hk
    obtain ⟨a, ha⟩ : ∃ a, s.names = [a] := by
      match s.names, l1 with
      | [a], _ => exact ⟨a, rfl⟩
    obtain ⟨t, u, htu⟩ : ∃ t u, s.numbers = [t, u] := by
      match s.numbers, l2 with
      | [t, u], _ => exact ⟨t, u, rfl⟩
    rw [ha, htu] at e
    cases e
    obtain ⟨q1, q2⟩ := hR.tk hk t u htu
    exact ⟨q1, idx_lt (hR.st hk a (by rw [ha]; simp)), q2⟩
  · cases e

end Wv
end WvM2_
section WvQ_
set_option Elab.async false
set_option linter.all false
set_option maxRecDepth 100000
set_option maxHeartbeats 2000000
/-! a list comprehension whose element lets an exception out of the def -/
namespace PySem
namespace HandSPX
section
variable {M : Model} {A : Around} {E : Value → Shared → Prop} {s : Shared} {Z : Obj → Prop} {base : Heap} {env : Env} {outer : List Env} {L e : Addr}
/-- a frame notes an exception, whichever frame noted it last -/
theorem look_any {fl : Value} {Q : Unit → Shared → Prop} (hZ : Steady Z) (fr : A.frames = some (env :: outer)) (eL : env.frame = some L) (kb : base.StaysIn s.heap) (nE : base.get? e = none)
    (ff : s.heap.FunFrames base (env :: outer)) (tr : TracedZ s.heap base e Z fl) (go : ∀ h', HeldZ base (env :: outer) e Z L h' → s.heap.UpToSlots h' → Q () { s with heap := h' }) :
    wpAny M A (noteFrame (.ref e) env) Q E s := by
  by_cases hfl : fl = rawInt L
  · subst hfl
    exact againZ eL tr (go s.heap ⟨kb, nE, ff, tr⟩ (Heap.UpToSlots.of_keeps fun _ _ z => z))
  · obtain ⟨oe, vs, T, oT, ts, g1, z1, d1, v1, nT, neT, gT, dT, t3⟩ := tr
    have away : ∀ b, b ≠ T → (s.heap.update T (Obj.mapFields (·.setIfInBounds 3 Value.none))).get? b = s.heap.get? b := fun b nb =>
      Heap.get?_update_other _ _ (Ne.symm nb)
    have plain : ∀ b o, s.heap.get? b = some o → (∀ vs, o.data ≠ .fields vs) → b ≠ T := by
      intro b o gb nf q
      subst q
      rw [gT] at gb
      cases gb
      exact nf ts dT
    unfold noteFrame
    simp only [eL]
    refine wpAny_bind (wpAny_field g1 d1 v1 ?_)
    rw [if_pos (show (Value.ref T != Value.none) = true by simp)]
    refine wpAny_bind (wpAny_field gT dT t3 ?_)
    rw [if_neg (show ¬ (fl == rawInt L) = true by simpa using hfl)]
    have i3 := (Array.getElem?_eq_some_iff.mp t3).1
    refine wpAny_bind (wpAny_setField gT dT i3 ?_)
    have ff' := ff.of_keeps (h' := s.heap.update T (Obj.mapFields (·.setIfInBounds 3 Value.none))) fun b o gb nf => ⟨o, (away b (plain b o gb nf)).trans gb, rfl⟩
    have kb' : base.StaysIn (s.heap.update T (Obj.mapFields (·.setIfInBounds 3 Value.none))) := fun b o gb =>
      (away b (by intro q; rw [q, nT] at gb; cases gb)).trans (kb b o gb)
    refine wpAny_entryZ hZ fr ff' eL ((away e (Ne.symm neT)).trans g1) kb' nE d1 (Array.getElem?_eq_some_iff.mp v1).1 z1 ?_
    rintro h' ⟨n1, n2, n3, n4⟩
    exact go h' ⟨n1, nE, n2, n3⟩ fun b o gb nf => n4 b o ((away b (plain b o gb nf)).trans gb) nf
theorem noteFrame_frame {x : Value} {env env' : Env} (h : env.frame = env'.frame) : noteFrame x env = noteFrame x env' := by
  unfold noteFrame frameOf
  rw [h]
end
end HandSPX
theorem funFrames_move {B G h h' : Heap} : ∀ {l : List Env}, h.FunFrames B l → (∀ b ∈ l.filterMap (·.frame), h'.get? b = h.get? b ∧ G.get? b = none) → h'.FunFrames G l
  | [], _, _ => trivial
  | env :: l, ⟨hk, ⟨L, o, hf, _, ho, hd⟩, hr⟩, hm =>
    ⟨hk, ⟨L, o, hf, (hm L (List.mem_filterMap.mpr ⟨env, List.mem_cons_self, hf⟩)).2, (hm L (List.mem_filterMap.mpr ⟨env, List.mem_cons_self, hf⟩)).1.trans ho, hd⟩,
      funFrames_move hr fun b hb => by
        obtain ⟨e, he, q⟩ := List.mem_filterMap.mp hb
        exact hm b (List.mem_filterMap.mpr ⟨e, List.mem_cons_of_mem _ he, q⟩)⟩
end PySem
namespace Wv
open PySem PySem.Spec PyProof.Rows L2
section
variable {X : Cx} {pins : List (Addr × Obj)} {σ : L2.St} {H3 : Hp} {s3 s' : Shared} {E : XK}
/-- the block's exception leaves the comprehension, then the def -/
theorem air_out {scope : Scope} {ce : Env} {fp : List Addr} {use : Option (Value → Sem Unit)} {Qf : Value → Shared → Prop} {acc u : Value} {E₁ : Value → Shared → Prop}
    (hs : X.stack = X.env :: X.outer) (hf : X.env.frame = some X.env.locals) (hex : X.ex = [])
    (hx : X.xe = fun e s' => wpAny (model X.prog X.w) X.A (leaving X.env e) (fun _ s'' => L2.CX X.prog X.w X.outer X.H_0 X.s_0 E e s'') E₁ s')
    (I3 : Inv X pins σ H3 s3) (cf : ce.frame = X.env.frame) (cL : ce.locals = s3.heap.objs.size) (f3 : ∀ b ∈ fp, FpOk X pins H3 b ∧ b < s3.heap.objs.size)
    (xx : XE (X.blk s3 H3 scope ce fp) (fun c d _ H => E c d H) u s') :
    notedBy (model X.prog X.w) X.A ce (fun e s'' => compPost (model X.prog X.w) X.A X.xe use Qf acc s3.heap.objs.size (.error e) s'') u s' := by
  obtain ⟨a, B, sI, pins', σ', H', cls, d, rfl, I', nb, up, sky, na, os, ag, w⟩ := xx
  have I7 : Inv X pins σ H' sI := I3.call' (ch := fp) I'.os I'.base I'.hok I'.bare fun b hb =>
    let z := (f3 b hb).1
    ⟨z.2.2.2.1, z.2.1, z.2.2.2.2.1, z.2.2.2.2.2⟩
  have hfr : X.A.frames = some (X.env :: X.outer) := by rw [← hs]; exact I7.ok.frames
  have nb : ∀ b o, sI.heap.get? b = some o → b ∉ frs (X.env :: X.outer) → B.get? b = some o := by rw [← hs]; exact nb
  have sub : ∀ b ∈ frs (X.env :: X.outer), b ∈ X.env.locals :: X.fs := by rw [← hs]; exact I7.stkSub
  have stf : ∀ b ∈ frs (X.env :: X.outer), H' b = none := by rw [← hs]; exact I7.stkFree
  have cOut : s3.heap.objs.size ∉ frs (X.env :: X.outer) := fun hm => by
    rcases List.mem_cons.mp (sub _ hm) with z | z
    · exact absurd I3.lt (by rw [← z]; exact Nat.lt_irrefl _)
    · exact I3.nofs (Nat.le_refl _) z
  have hC : H' s3.heap.objs.size = none := by rw [← cL]; exact I'.free
  obtain ⟨m, ⟨oC, es, ep, gC, rC⟩, _⟩ := I'.loc
  have gC : sI.heap.get? s3.heap.objs.size = some oC := by rw [← cL]; exact gC
  have bC := nb _ _ gC cOut
  -- what follows once the frame has noted it
  have key : ∀ h', HandSPX.HeldZ B (X.env :: X.outer) a (Zc cls d) X.env.locals h' → s'.heap.UpToSlots h' → compPost (model X.prog X.w) X.A X.xe use Qf acc s3.heap.objs.size (.error (.ref a)) { s' with heap := h' } := by
    rintro h' ⟨kb, nE, ff, tr⟩ u1
    refine ⟨m, ⟨oC, es, ep, kb _ _ bC, rC⟩, fun h2 sb cenv hcl => ?_⟩
    obtain ⟨G, g1, g2⟩ := restrict B fun b => decide (b ≠ s3.heap.objs.size)
    have g1 : ∀ b, b ≠ s3.heap.objs.size → G.get? b = B.get? b := fun b hb => g1 b (decide_eq_true hb)
    have g2 : G.get? s3.heap.objs.size = none := g2 _ (by simp)
    have gNe : ∀ b o, G.get? b = some o → b ≠ s3.heap.objs.size := fun b o e q => by rw [q, g2] at e; cases e
    have kG : G.StaysIn h2 := fun b o e => (sb.2 b (gNe b o e)).trans (kb b o ((g1 b (gNe b o e)).symm.trans e))
    have aNe : a ≠ s3.heap.objs.size := fun q => by rw [q, bC] at nE; cases nE
    have eG : G.get? a = none := (g1 a aNe).trans nE
    have fG : h2.FunFrames G (X.env :: X.outer) := funFrames_move ff fun b hb => by
      have hne : b ≠ s3.heap.objs.size := fun q => cOut (q ▸ hb)
      exact ⟨sb.2 b hne, (g1 b hne).trans (ff.mem hb).1⟩
    have tG : HandSPX.TracedZ h2 G a (Zc cls d) (rawInt X.env.locals) := by
      obtain ⟨oe, vs, T, oT, ts, q1, q2, q3, q4, q5, q6, q7, q8, q9⟩ := tr
      have tNe : T ≠ s3.heap.objs.size := fun q => by rw [q, bC] at q5; cases q5
      exact ⟨oe, vs, T, oT, ts, (sb.2 a aNe).trans q1, q2, q3, q4, (g1 T tNe).trans q5, q6, (sb.2 T tNe).trans q7, q8, q9⟩
    have okG : HOk X.prog X.w H' G := fun b o q => (I7.hok b o q).stay (fun c v hc r => by
      have nC : ∀ z, H' z = none → (c = b ∨ H' c = some (.own b)) → c ≠ z := fun z hz hc e => by
        rcases hc with hc | hc
        · rw [← hc, e, hz] at q; cases q
        · rw [e, hz] at hc; cases hc
      exact (g1 c (nC _ hC hc)).trans (nb c v r fun hm => nC c (stf c hm) hc rfl)) (fun _ r => r) fun _ _ r => r
    -- the exception is passed on
    unfold PySem.passOn
    obtain ⟨oe, vs, T, oT, ts, q1, q2, q3, q4, q5⟩ := id tG
    refine wpAny_bind (wpAny_field q1 q3 q4 ?_)
    rw [if_neg (show ¬ ((Value.ref T == Value.none) = true) by simp)]
    refine wpAny_bind (HandSPX.setFlight_anyZ kG fG tG fun h3 k3 f3' t3 u3 => wpAny_throw ?_)
    rw [hx]
    show wpAny _ _ (leaving X.env (.ref a)) _ _ _
    unfold leaving
    refine wpAny_bind (HandSPX.look_any Zc.steady hfr hf k3 eG f3' t3 fun h4 held u4 => HandSPX.landsZ held fun h5 fl u5 => ?_)
    obtain ⟨c1, c2, ⟨_, _, c3⟩, c4⟩ := fl
    have noEx : ∀ b, b ∉ X.ex := fun b hb => by rw [hex] at hb; cases hb
    have old : ∀ b o, X.s_0.heap.get? b = some o → b ∉ X.fs → b ∉ frs (X.env :: X.outer) := fun b o e hb hm => by
      rcases List.mem_cons.mp (sub b hm) with z | z
      · have l1 := Heap.lt_size e
        rw [z] at l1
        exact absurd (Nat.lt_of_lt_of_le l1 I7.ok.above) (Nat.lt_irrefl _)
      · exact hb z
    have ltC : ∀ b o, X.s_0.heap.get? b = some o → b ≠ s3.heap.objs.size := fun b o e q => by
      have l1 := Heap.lt_size e
      rw [q] at l1
      exact absurd (Nat.lt_of_lt_of_le l1 I3.sz) (Nat.lt_irrefl _)
    refine ⟨a, G, H', cls, d, rfl, ⟨c1, c2, c3, c4⟩, okG, ⟨fun b o e n hb => ?_, fun b o e hb => ?_, fun b o e n => I7.base.free b o e n (noEx b), fun b o e hb => ?_, I7.base.tups, I7.base.frzs, I7.base.tbls⟩, na, os.trans I7.os, ag, w⟩
    · exact (g1 b (ltC b o e)).trans (nb b o (I7.base.keep b o e n hb (noEx b)) (old b o e hb))
    · obtain ⟨_, o0, e0, hnf⟩ := I7.ok.funs.mem hb
      rw [e] at e0
      cases e0
      obtain ⟨l1, r1⟩ := I7.base.slot b o e (I7.ok.frf b hb) hb (noEx b)
      obtain ⟨l2, r2⟩ := up b _ r1 hnf
      obtain ⟨l3, r3⟩ := u1 b _ r2 hnf
      have r4 := (sb.2 b (ltC b o e)).trans r3
      obtain ⟨l5, r5⟩ := u3 b _ r4 hnf
      obtain ⟨l6, r6⟩ := u4 b _ r5 hnf
      obtain ⟨l7, r7⟩ := u5 b _ r6 hnf
      exact ⟨l7, r7⟩
    · obtain ⟨o1, r1⟩ := I7.base.there b o e (noEx b)
      exact ⟨o1, (g1 b (ltC b o e)).trans (nb b o1 r1 (old b o e hb))⟩
  show wpAny _ _ (noteFrame (.ref a) ce) _ _ _
  rw [HandSPX.noteFrame_frame cf]
  have sky : Sky B (X.env :: X.outer) a (Zc cls d) ce.locals s'.heap := by rw [← hs]; exact sky
  rcases sky with ⟨hB, hn, hl, oe, vs, he, hz, hd, h1⟩ | ⟨z1, z2, z3, z4⟩ | ⟨z1, z2, z3, z4⟩
  · exact HandSPX.look_newZ Zc.steady hfr hl hf he hB hn hd h1 hz key
  · exact HandSPX.look_any Zc.steady hfr hf z1 z2 z3 z4 key
  · exact HandSPX.look_any Zc.steady hfr hf z1 z2 z3 z4 key
end
section
variable {X : Cx}
/-- the block of such a comprehension, whatever uses its list -/
theorem lcx_core {pins : List (Addr × Obj)} {s : Shared} {σ : L2.St} {H : Hp} {Q : VK} {E : XK} {elt tg iter : Expr} {ifs : List Expr} {scope : Scope} {own : List (Str × Nat)} {pos pos' : Pos} {wi : TI} {g : TG} {tt : TT} {te : TE}
    {use : Option (Value → Sem Unit)} {Qf : Value → Shared → Prop} {E₁ : Value → Shared → Prop}
    (hs : X.stack = X.env :: X.outer) (hf : X.env.frame = some X.env.locals) (hex : X.ex = [])
    (hx : X.xe = fun e s' => wpAny (model X.prog X.w) X.A (leaving X.env e) (fun _ s'' => L2.CX X.prog X.w X.outer X.H_0 X.s_0 E e s'') E₁ s')
    (hc : X.calm = true) (hN : X.N.Nodup) (I : Inv X pins σ H s) (hi : PI X tg iter wi) (ok : BlkOk X.N X.env.scope scope own)
    (hg : ∀ s H C cl fp, PG (X.blk s H scope (compEnvC scope cl C X.env) fp) tg g)
    (ht : ∀ s H C cl fp, PTs (X.blk s H scope (compEnvC scope cl C X.env) fp) ifs tt)
    (he : ∀ s H C cl fp pn xe, Takes ((X.blk s H scope (compEnvC scope cl C X.env) fp).tr pn xe) (fun c d _ H => E c d H) → PE ((X.blk s H scope (compEnvC scope cl C X.env) fp).tr pn xe) elt te)
    (hfs : ∀ x, foldedSetIterable iter X.env x = pure x) (h : tLc wi g tt te (own.map (·.2)) σ H Q)
    (fin : ∀ D C s' m H', Inv X pins σ H' s' → Q (.ref D) H' → s'.heap.Ns C m → FpOk X pins H' C → compPost (model X.prog X.w) X.A X.xe use Qf (.ref D) C (.ok .next) s') :
    wpAny (model X.prog X.w) X.A (comprehension (.ListComp elt [⟨tg, iter, ifs, 0⟩] scope pos) scope X.env pos' (newList []) false (eval iter X.env) use) Qf X.xe s := by
  have caught : ∀ y ∈ scope.names, y.2 = .free → ∃ c, X.env.cells.lookup y.1 = some c := by
    intro y hy e
    exact I.ok.has _ (ok.free y hy e)
  refine wpAny_comprehension_free (use := use) rfl hfs (closure_ok caught) ok.kind (fun y hy e => (ok.uniq y hy).trans (congrArg some e)) ?_
  refine thn (hi.run pins s σ H _ I h) fun xv s1 hx1 => thn hx1 ?_
  rintro itv s2 ⟨it, fp, tn, J, H2, rfl, I2, T, st2, f2, q⟩
  refine wpAny_newObj_type (newEnv_comp ?_) (show 0 ≤ sizeLine by decide)
  obtain ⟨D, hD⟩ : ∃ D, D = s2.heap.objs.size := ⟨_, rfl⟩
  rw [← hD]
  have nD : H2 D = none := I2.hok.fresh (Nat.le_of_eq hD.symm)
  obtain ⟨W, ⟨m0, w0⟩, turn⟩ := q D nD
  obtain ⟨s3, hs3⟩ : ∃ s3 : Shared, s3 = { s2 with heap := s2.heap.push { cls := .type "list", data := .seq ([] : List Value).toArray } } := ⟨_, rfl⟩
  have e3 : s3.heap = s2.heap.push { cls := .type "list", data := .seq ([] : List Value).toArray } := by rw [hs3]
  have I3 : Inv X pins σ (upd H2 D (.lst [])) s3 := by
    subst hs3 hD
    exact I2.laid (t' := s2.toks) (fun b o e => Heap.get?_push_of_some _ e) (Nat.le_refl _) ⟨Nat.zero_le _, [], 0, .nil, Heap.get?_push_size _ rfl⟩
  have f3 : ∀ b ∈ fp, FpOk X pins (upd H2 D (.lst [])) b ∧ b < s3.heap.objs.size := by
    intro b hb
    obtain ⟨o, e, _⟩ := T.obj _ _ st2 b hb
    have lt := Heap.lt_size e
    have ne : b ≠ D := by rw [hD]; exact Nat.ne_of_lt lt
    exact ⟨⟨(upd_ne ne).trans (f2 b hb).1, (f2 b hb).2⟩, by rw [e3, Heap.size_push]; exact Nat.lt_succ_of_lt lt⟩
  have st3 : tn 0 s3.heap := T.keep _ _ _ st2 fun b _ o e => e3 ▸ Heap.get?_push_of_some _ e
  have I4 := block_start I3 ok hN f3
  obtain ⟨H3, hH3⟩ : ∃ H3, H3 = upd H2 D (.lst []) := ⟨_, rfl⟩
  rw [← hH3] at I3 f3 I4 w0
  rw [← hs3]
  show codeAny _ _ (.compStart (.ListComp elt [⟨tg, iter, ifs, 0⟩] scope pos) 0 (.ref it) (.ref D) (compEnvC scope (cellsFrom (s3.heap.objs.size + 1) scope.names (cloFrom X.env.cells scope.names [])) s3.heap.objs.size X.env))
    (compPost (model X.prog X.w) X.A X.xe use Qf (.ref D) s3.heap.objs.size) { s3 with heap := pushCells (s3.heap.push { cls := .type "dict", data := .dict #[] }) scope.names }
  obtain ⟨ce, hce⟩ : ∃ ce, ce = compEnvC scope (cellsFrom (s3.heap.objs.size + 1) scope.names (cloFrom X.env.cells scope.names [])) s3.heap.objs.size X.env := ⟨_, rfl⟩
  have pg : PG (X.blk s3 H3 scope ce fp) tg g := by rw [hce]; exact hg ..
  have pt : PTs (X.blk s3 H3 scope ce fp) ifs tt := by rw [hce]; exact ht ..
  have pe : ∀ pn xe, Takes ((X.blk s3 H3 scope ce fp).tr pn xe) (fun c d _ H => E c d H) → PE ((X.blk s3 H3 scope ce fp).tr pn xe) elt te := by rw [hce]; intro pn xe; exact he _ _ _ _ _ pn xe
  have cL : ce.locals = s3.heap.objs.size := by rw [hce]; rfl
  have cF : ce.frame = X.env.frame := by rw [hce]; rfl
  rw [← hce] at I4 ⊢
  obtain ⟨s4, hs4⟩ : ∃ s4 : Shared, s4 = { s3 with heap := pushCells (s3.heap.push { cls := .type "dict", data := .dict #[] }) scope.names } := ⟨_, rfl⟩
  rw [← hs4] at I4 ⊢
  have st4 : tn 0 s4.heap := T.keep _ _ _ st3 fun b _ o e => by rw [hs4]; exact pushCells_keeps _ _ _ _ (Heap.get?_push_of_some _ e)
  have nFp : ∀ b ∈ fp, H3 b = none := fun b hb => (f3 b hb).1.1
  have frees : ∀ {σ' : L2.St} {H' : Hp} {s' : Shared}, Inv (X.blk s3 H3 scope ce fp) [] σ' H' s' → (∀ b ∈ fp, H' b = none) → ∀ b ∈ fp, FpOk (X.blk s3 H3 scope ce fp) [] H' b := fun I' hn b hb =>
    ⟨hn b hb, (I'.ok.exf b hb).1, I'.ok.exfs b hb, .inl hb, (I'.ok.exf b hb).2, fun p hp => absurd (show p ∈ ([] : List (Addr × Obj)) from hp) List.not_mem_nil⟩
  refine codeAny_compStart_list ?_ (T.self X.A 0 _ _ _ st4 ?_) <;> skip
  all_goals
    refine compLoop_any (fun n s' => ∃ i H', Inv (X.blk s3 H3 scope ce fp) [] (wipe σ (own.map (·.2))) H' s' ∧ tn i s'.heap ∧ (∀ b ∈ fp, H' b = none) ∧ W i n H') ?_ m0 ⟨0, H3, I4, st4, nFp, w0⟩
    rintro n s5 ⟨i, H5, I5, st5, n5, w5⟩
    rcases turn i n H5 w5 with ⟨stop, qq⟩ | ⟨go, Nx, hNx, step⟩
    · refine thnF (T.done (X.blk s3 H3 scope ce fp) rfl rfl rfl hc i [] s5 _ H5 (fun _ _ => False) I5 (frees I5 n5) st5 stop) ?_
      rintro r s6 ⟨rfl, I6⟩
      have I7 : Inv X pins σ H5 s6 := I3.call' (ch := fp) I6.os I6.base I6.hok I6.bare fun b hb =>
        let z := (f3 b hb).1
        ⟨z.2.2.2.1, z.2.1, z.2.2.2.2.1, z.2.2.2.2.2⟩
      have nC : H5 s3.heap.objs.size = none := cL ▸ I6.free
      obtain ⟨m, hn, _⟩ := I6.loc
      exact fin D s3.heap.objs.size s6 m H5 I7 qq (cL ▸ hn) (I3.fpOk (Nat.le_refl _) nC)
    · refine thnF (T.item (X.blk s3 H3 scope ce fp) rfl rfl rfl hc i [] s5 _ H5 (fun _ _ => False) I5 (frees I5 n5) st5 go) ?_
      rintro r s6 ⟨u, rfl, h6⟩
      refine thnF h6 ?_
      rintro _ s7 ⟨x, H7, I7, r7, y7, st7, n7⟩
      have J7 := I7.pinned (frees I7 n7) (T.obj _ _ st7)
      refine thnF (pg.run _ s7 _ H7 x u _ J7 r7 (step x H7 y7)) ?_
      rintro _ s8 ⟨σ8, H8, I8, hw8, q8⟩
      refine thnF (pt.run _ s8 σ8 H8 _ I8 q8) ?_
      rintro b s9 ⟨H9, I9, q9⟩
      have fin2 : ∀ {s' : Shared} {H' : Hp}, Inv (X.blk s3 H3 scope ce fp) ([] ++ pinsAt fp s7.heap) σ8 H' s' → Nx H' →
          ∃ m, m < n ∧ ∃ i H', Inv (X.blk s3 H3 scope ce fp) [] (wipe σ (own.map (·.2))) H' s' ∧ tn i s'.heap ∧ (∀ b ∈ fp, H' b = none) ∧ W i m H' := by
        intro s' H' I' nx
        obtain ⟨m', hm, w'⟩ := hNx H' nx
        have pinned : ∀ b ∈ fp, ∀ o, s7.heap.get? b = some o → s'.heap.get? b = some o ∧ H' b = none := fun b hb o e =>
          let z := I'.pin (b, o) (List.mem_append_right _ (List.mem_append_right _ (mem_pinsAt hb e)))
          ⟨z.1, z.2.1⟩
        refine ⟨m', hm, i + 1, H', (I'.unpinned (pins := [])).weak (by rw [← hw8, wipe_length]) (fun j v e => (wipe_some (hw8 ▸ e)).1), T.keep _ _ _ st7 fun b hb o e => (pinned b hb o e).1, fun b hb => ?_, w'⟩
        obtain ⟨o, e, _⟩ := T.obj _ _ st7 b hb
        exact (pinned b hb o e).2
      cases b with
      | false =>
        rw [if_neg Bool.false_ne_true] at q9 ⊢
        exact fin2 I9 q9
      | true =>
        rw [if_pos rfl] at q9 ⊢
        have tk : Takes ((X.blk s3 H3 scope ce fp).tr ((X.blk s3 H3 scope ce fp).pn ++ ([] ++ pinsAt fp s7.heap)) (XE (X.blk s3 H3 scope ce fp) fun c d _ H => E c d H)) (fun c d _ H => E c d H) := by
          rintro u' s' ⟨a, B, sI, pins', σ', H', cls, d, e, J', nb, up, sky, na, os, ag, w⟩
          exact ⟨a, B, sI, _, σ', H', cls, d, e, J'.ofTry I9.ok, nb, up, sky, na, os, ag, w⟩
        refine wpAny_mono ((pe _ _ tk).run [] s9 σ8 H9 _ (I9.toTry _) q9) ?_ fun e s' z => air_out hs hf hex hx I3 cF cL f3 z
        rintro z s10 ⟨yv, H10, I10, r10, acc, hD10, hz10, nx⟩
        exact app_ok (X := X.blk s3 H3 scope ce fp) (I10.ofTry I9.ok) hD10 hz10 r10 fun s11 I11 => fin2 I11 nx
/-- as a value -/
theorem pe_lcX {E : XK} {elt tg iter : Expr} {ifs : List Expr} {scope : Scope} {own : List (Str × Nat)} {pos : Pos} {wi : TI} {g : TG} {tt : TT} {te : TE} {E₁ : Value → Shared → Prop}
    (hs : X.stack = X.env :: X.outer) (hf : X.env.frame = some X.env.locals) (hex : X.ex = [])
    (hx : X.xe = fun e s' => wpAny (model X.prog X.w) X.A (leaving X.env e) (fun _ s'' => L2.CX X.prog X.w X.outer X.H_0 X.s_0 E e s'') E₁ s')
    (hc : X.calm = true) (hN : X.N.Nodup) (hi : PI X tg iter wi) (ok : BlkOk X.N X.env.scope scope own)
    (hg : ∀ s H C cl fp, PG (X.blk s H scope (compEnvC scope cl C X.env) fp) tg g)
    (ht : ∀ s H C cl fp, PTs (X.blk s H scope (compEnvC scope cl C X.env) fp) ifs tt)
    (he : ∀ s H C cl fp pn xe, Takes ((X.blk s H scope (compEnvC scope cl C X.env) fp).tr pn xe) (fun c d _ H => E c d H) → PE ((X.blk s H scope (compEnvC scope cl C X.env) fp).tr pn xe) elt te)
    (hfs : ∀ x, foldedSetIterable iter X.env x = pure x := by intro _; rfl) : PE X (.ListComp elt [⟨tg, iter, ifs, 0⟩] scope pos) (tLc wi g tt te (own.map (·.2))) := by
  refine ⟨fun pins s σ H Q I h => ?_⟩
  rw [eval_ListComp]
  refine lcx_core hs hf hex hx hc hN I hi ok hg ht he hfs h ?_
  rintro D C s' m H' I' q hn ⟨f0, f1, f2, f3, f4, f5⟩
  exact ⟨m, hn, fun h'' sb => ⟨.ref D, H', I'.turned (t' := s'.toks) (fun b o hb e => (sb.2 b hb).trans e) f0 f1 f3 f4 f5, rfl, q⟩⟩
/-- y = [..] on one line, y a local -/
theorem ps_setLcX {E : XK} {i : Nat} {y : Str} {py : Pos} {elt tg iter : Expr} {ifs : List Expr} {scope : Scope} {own : List (Str × Nat)} {pos spos : Pos} {wi : TI} {g : TG} {tt : TT} {te : TE} {E₁ : Value → Shared → Prop}
    (hs : X.stack = X.env :: X.outer) (hf : X.env.frame = some X.env.locals) (hex : X.ex = [])
    (hx : X.xe = fun e s' => wpAny (model X.prog X.w) X.A (leaving X.env e) (fun _ s'' => L2.CX X.prog X.w X.outer X.H_0 X.s_0 E e s'') E₁ s')
    (hc : X.calm = true) (hN : X.N.Nodup) (hy : X.N[i]? = some y) (hyl : X.env.scope.names.lookup y = some .local)
    (hsw : swapsWith (.ListComp elt [⟨tg, iter, ifs, 0⟩] scope pos) (some (.Name y py)) spos.line X.env = pure true) (hi : PI X tg iter wi) (ok : BlkOk X.N X.env.scope scope own)
    (hg : ∀ s H C cl fp, PG (X.blk s H scope (compEnvC scope cl C X.env) fp) tg g)
    (ht : ∀ s H C cl fp, PTs (X.blk s H scope (compEnvC scope cl C X.env) fp) ifs tt)
    (he : ∀ s H C cl fp pn xe, Takes ((X.blk s H scope (compEnvC scope cl C X.env) fp).tr pn xe) (fun c d _ H => E c d H) → PE ((X.blk s H scope (compEnvC scope cl C X.env) fp).tr pn xe) elt te)
    (hfs : ∀ x, foldedSetIterable iter X.env x = pure x := by intro _; rfl) :
    PS X (.Assign [.Name y py] (.ListComp elt [⟨tg, iter, ifs, 0⟩] scope pos) spos) (tAsg (tLc wi g tt te (own.map (·.2))) (gName i)) := by
  refine ⟨fun pins s σ H D I h => ?_⟩
  rw [exec_Assign_Name_used _ _ _ _ hsw]
  refine wpAny_bind (wpAny_standAt (wpAny_bind ?_))
  have h : tLc wi g tt te (own.map (·.2)) σ H (fun x H1 => gName i x σ H1 D.nx) := h
  show wpAny _ X.A (comprehension (.ListComp elt [⟨tg, iter, ifs, 0⟩] scope pos) scope X.env (firstIterPos [⟨tg, iter, ifs, 0⟩] pos) (newList []) false (eval iter X.env) (some (assign (.Name y py) X.env)) >>= fun _ => pure ()) _ _ s
  refine wpAny_bind (thn (lcx_core (Qf := fun _ s' => SP X pins D .next s') hs hf hex hx hc hN I hi ok hg ht he hfs h ?_) fun _ s' hq => wpAny_pure (wpAny_pure hq))
  rintro L C s' m H' I' q hn ⟨f0, f1, f2, f3, f4, f5⟩
  show wpAny _ _ (assign (.Name y py) X.env (.ref L)) _ _ _
  refine wpAny_assign_Name (store_ok2 (v := V.ref L) I' hN hy (.inl hyl) rfl (fun s2 I2 ⟨a, sb, ha⟩ => ?_) (.inr hyl))
  have haC : C ≠ a := by
    rcases ha with z | z
    · exact fun e => f1 (e.trans z)
    · exact fun e => f4 y a z e.symm
  exact ⟨m, hn.sameBut sb haC, fun h3 sb3 => ⟨_, H', I2.turned (t' := s2.toks) (fun b o hb e => (sb3.2 b hb).trans e) f0 f1 f3 f4 f5, q⟩⟩
end
end Wv
end WvQ_
section WvF_
set_option Elab.async false
set_option linter.all false
set_option maxRecDepth 100000
set_option maxHeartbeats 2000000
/-! a call that knows nothing of one of the lists that stand: the list stays as it is -/
namespace Wv
open PySem PySem.Spec PyProof.Rows L2
def hide (H : Hp) (D : Addr) : Hp := fun b => if b = D then none else H b
theorem hide_same {H : Hp} {D : Addr} : hide H D D = none := if_pos rfl
theorem hide_ne {H : Hp} {D b : Addr} (h : b ≠ D) : hide H D b = H b := if_neg h
theorem hide_some {H : Hp} {D b : Addr} {o : HO} (h : hide H D b = some o) : b ≠ D ∧ H b = some o := by
  by_cases e : b = D
  · rw [e, hide_same] at h
    cases h
  · exact ⟨e, by rw [hide_ne e] at h; exact h⟩
theorem hide_none {H : Hp} {D b : Addr} (h : H b = none) : hide H D b = none := by
  unfold hide
  split
  · rfl
  · exact h
section
variable {P : Program} {w : World} {H H' : Hp} {h h' B : Heap} {D : Addr} {xs : List V}
theorem hok_hide (ok : HOk P w H h) (hD : H D = some (.lst xs)) : HOk P w (hide H D) h := fun a o e => by
  obtain ⟨ne, e⟩ := hide_some e
  refine (ok a o e).stay (fun _ _ _ q => q) (fun b q => ?_) fun b ys q => ?_
  · rw [hide_ne (fun z => by rw [z, hD] at q; cases q)]
    exact q
  · rw [hide_ne (fun z => by rw [z, hD] at q; cases q)]
    exact q
theorem hok_show (ok : HOk P w H h) (hD : H D = some (.lst xs)) (ok' : HOk P w H' B) (n : H' D = none) (same : ∀ o, h.get? D = some o → B.get? D = some o) : HOk P w (upd H' D (.lst xs)) B := fun a o e => by
  by_cases q : a = D
  · subst q
    rw [upd_same] at e
    cases e
    obtain ⟨z, its, k, r, g⟩ := ok _ _ hD
    exact ⟨z, its, k, r, same _ g⟩
  · rw [upd_ne q] at e
    refine (ok' a o e).stay (fun _ _ _ q => q) (fun b q => ?_) fun b ys q => ?_
    · rw [upd_ne (ne_of_none q n)]
      exact q
    · rw [upd_ne (ne_of_none q n)]
      exact q
end
/-- the promise of a call that a list at D stands beside -/
def beside (sp : Sp) : Sp := fun vs H Q E => ∃ D xs, H D = some (.lst xs) ∧ sp vs (hide H D) (fun v H' => H' D = none → Q v (upd H' D (.lst xs))) (fun c d H' => H' D = none → E c d (upd H' D (.lst xs)))
section
variable {P : Program} {w : World} {K : PySem.W.Frag} {mg : Str → Option Value} {base : Heap} {k : Nat} {f : Addr} {fd : FuncData} {ps : List Str} {sp : Sp}
theorem env0_hide {A : Around} {outer : List Env} {s : Shared} {H : Hp} {D : Addr} {xs : List V} (e : Env0 P w K mg base A outer s H) (hD : H D = some (.lst xs)) : Env0 P w K mg base A outer s (hide H D) :=
  ⟨e.frames, e.mod, fun b o q => ⟨(e.bs b o q).1, hide_none (e.bs b o q).2⟩, e.bsz, e.funs, fun b hb => hide_none (e.frf b hb), hok_hide e.hok hD, e.bare⟩
theorem ce_show {outer : List Env} {s s' : Shared} {H : Hp} {Q : VK} {u : Value} {D : Addr} {xs : List V} (hok : HOk P w H s.heap) (frf : ∀ b ∈ frs outer, H b = none) (hD : H D = some (.lst xs))
    (c : CE outer P w (hide H D) s (fun v H' => H' D = none → Q v (upd H' D (.lst xs))) u s') : CE outer P w H s Q u s' := by
  obtain ⟨v, H', os, ag, un, ok', r, q⟩ := c
  obtain ⟨_, its, n, _, gD⟩ := hok _ _ hD
  have nD : D ∉ frs outer := fun z => by rw [frf D z] at hD; cases hD
  have fD : H' D = none := un.free D _ gD hide_same (by simp)
  have ne : ∀ b, H b = none → b ≠ D := fun b z q => by rw [q, hD] at z; cases z
  refine ⟨v, _, os, ag, ⟨fun b o g n hb hx => un.keep b o g (hide_none n) hb hx, fun b o g n hb hx => un.slot b o g (hide_none n) hb hx, fun b o g n hx => ?_, un.there, fun b ys q => ?_, fun b o y q => ?_, fun b ps q => ?_⟩,
    hok_show hok hD ok' fD fun o g => un.keep D o g hide_same nD (by simp), r, q fD⟩
  · rw [upd_ne (ne b n)]
    exact un.free b o g (hide_none n) hx
  · have z : b ≠ D := fun e => by rw [e, hD] at q; cases q
    rw [upd_ne z]
    exact un.tups b ys (by rw [hide_ne z]; exact q)
  · have z : b ≠ D := fun e => by rw [e, hD] at q; cases q
    rw [upd_ne z]
    exact un.frzs b o y (by rw [hide_ne z]; exact q)
  · have z : b ≠ D := fun e => by rw [e, hD] at q; cases q
    rw [upd_ne z]
    exact un.tbls b ps (by rw [hide_ne z]; exact q)
theorem FnOk.beside0 (F : FnOk P w K mg base CX0 k f fd ps sp) : FnOk P w K mg base CX0 k f fd ps (beside sp) := by
  refine ⟨fun vs H Q E h => ?_, fun A outer s H args us vs Q E hr he hb hv h => ?_⟩
  · obtain ⟨D, xs, hD, h⟩ := h
    exact F.len _ _ _ _ h
  · obtain ⟨D, xs, hD, h⟩ := h
    refine codeAny_mono (F.run A outer s (hide H D) args us vs _ _ hr (env0_hide he hD) hb hv h) fun r s' q => ?_
    match r, q with
    | .ok (.ret u), q => exact ce_show he.hok he.frf hD q
theorem FnOk.besideX (F : FnOk P w K mg base (L2.CX P w) k f fd ps sp) : FnOk P w K mg base (L2.CX P w) k f fd ps (beside sp) := by
  refine ⟨fun vs H Q E h => ?_, fun A outer s H args us vs Q E hr he hb hv h => ?_⟩
  · obtain ⟨D, xs, hD, h⟩ := h
    exact F.len _ _ _ _ h
  · obtain ⟨D, xs, hD, h⟩ := h
    refine codeAny_mono (F.run A outer s (hide H D) args us vs _ _ hr (env0_hide he hD) hb hv h) fun r s' q => ?_
    match r, q with
    | .ok (.ret u), q => exact ce_show he.hok he.frf hD q
    | .error u, q =>
      obtain ⟨a, B, H', cls, d, e, fl, ok', ub, na, os, ag, hE⟩ := q
      obtain ⟨_, its, n, _, gD⟩ := he.hok _ _ hD
      have nD : D ∉ frs outer := fun z => by rw [he.frf D z] at hD; cases hD
      have fD : H' D = none := ub.free D _ gD hide_same
      have bD := ub.keep D _ gD hide_same nD
      have ne : ∀ b, H b = none → b ≠ D := fun b z q => by rw [q, hD] at z; cases z
      have aD : a ≠ D := fun z => by rw [z] at fl; rw [fl.2.1] at bD; cases bD
      refine ⟨a, B, upd H' D (.lst xs), cls, d, e, fl, hok_show he.hok hD ok' fD fun o g => ub.keep D o g hide_same nD, ⟨fun b o g n hb => ub.keep b o g (hide_none n) hb, ub.slot, fun b o g n => ?_, ub.there, fun b ys q => ?_, fun b o y q => ?_, fun b ps q => ?_⟩, ?_, os, ag, hE fD⟩
      · rw [upd_ne (ne b n)]
        exact ub.free b o g (hide_none n)
      · have z : b ≠ D := fun e => by rw [e, hD] at q; cases q
        rw [upd_ne z]
        exact ub.tups b ys (by rw [hide_ne z]; exact q)
      · have z : b ≠ D := fun e => by rw [e, hD] at q; cases q
        rw [upd_ne z]
        exact ub.frzs b o y (by rw [hide_ne z]; exact q)
      · have z : b ≠ D := fun e => by rw [e, hD] at q; cases q
        rw [upd_ne z]
        exact ub.tbls b ps (by rw [hide_ne z]; exact q)
      · rw [upd_ne aD]
        exact na
end
def DF.besideX {P : Program} {w : World} {K : PySem.W.Frag} {mg : Str → Option Value} {base : Heap} {k : Nat} {x : Str} {ps : List Str} {sp : Sp} (D : DF P w K mg base (L2.CX P w) k x ps sp) : DF P w K mg base (L2.CX P w) k x ps (beside sp) := ⟨D.f, D.fd, FnOk.besideX D.G, D.mg, D.kp, D.b⟩
def DF.beside0 {P : Program} {w : World} {K : PySem.W.Frag} {mg : Str → Option Value} {base : Heap} {k : Nat} {x : Str} {ps : List Str} {sp : Sp} (D : DF P w K mg base CX0 k x ps sp) : DF P w K mg base CX0 k x ps (beside sp) := ⟨D.f, D.fd, FnOk.beside0 D.G, D.mg, D.kp, D.b⟩
end Wv
end WvF_
section WvG6_
set_option Elab.async false
set_option linter.all false
set_option maxRecDepth 100000
set_option maxHeartbeats 4000000
namespace Wv
open PySem L2
open SX (S S_len S_inj)
local macro_rules | `(tactic| walk_at "rd") => `(tactic| (try simp only [tVar, tC, tB, tAnd, tOr, tNot, tAndV, tOrV, tNotV, tIf, tNext, tSeq, tBreak, tCont, tDrop, tRet, tRetN, tIfS, gName, gNil, gCons, gTup, gSub, tAsg, tPar, tAug, tOp, tUn, rI, rI0, rU, rEq, rNe, tTest, tFld, tNil, tCons, tTup, tLst, tCB, tNoPart, tPart, tSl, rIxL, rIxT, rIxS, rSlL, rSlS, tBM0, tBM, rAppend, rExtend, rCat, rRep, rSetL, tM0, tM1, tCall, tMeth, tMake, sFld, sFldAug, rAdd, rSub, ipI, tBM0,
  scal_ss, scal_ii, scal_bb, scal_ns, scal_sn, scal_nn, tyV_str, L2.start, List.map_cons, List.map_nil, List.length_cons, List.length_nil, List.replicate, List.cons_append, List.nil_append, List.append_nil, List.getElem?_cons_zero, List.getElem?_cons_succ, List.set_cons_zero, List.set_cons_succ, Nat.reduceAdd, Nat.reduceSub, Nat.zero_add, Nat.sub_self, Nat.add_one_sub_one,
  Option.some.injEq, exists_eq_left, exists_eq_left', exists_eq', exists_eq, V.int.injEq, V.str.injEq, V.ref.injEq, V.bl.injEq, reduceCtorEq, List.cons.injEq, and_true, true_and, exists_and_left, exists_and_right, and_assoc, decide_true, decide_false, if_true, if_false, ite_true, ite_false, Bool.false_eq_true, Bool.true_eq_false, eq_self_iff_true, cx_K, nox_K, tMkSyn, tMkChk, tYes, bne, ne_eq, not_false_eq_true, not_true_eq_false, Bool.not_true, Bool.not_false, decide_eq_true_eq, Bool.not_eq_true', decide_eq_false_iff_not]))
open LamX
inductive RErr where
  | syn (x y : Nat)
  | chk (r : List Nat) (x y : Nat)
def gardOf : List WStm → WGard
  | s0 :: s1 :: s2 :: rest =>
    let ns := s2.names.map (·.text)
    let pd := num (s0.numbers.getD 0 s0.key)
    ⟨pd, num (s1.numbers.getD 0 s1.key), ns, rankOf ns rest, sortT (startsOf ns rest), dryOf pd rest⟩
  | _ => ⟨0, 0, [], [], [], []⟩
def readP (z : List Nat) : Except RErr WGard := match parse z with
  | .error (x, y) => .error (.syn x y)
  | .ok ss => match checkAll ⟨0, [], 0, 0⟩ ss with
    | .error (r, x, y) => .error (.chk r x y)
    | .ok _ => .ok (gardOf ss)
theorem readP_syn {z : List Nat} {x y : Nat} (h : parse z = .error (x, y)) : readP z = .error (.syn x y) := by simp only [readP, h]
theorem readP_chk {z : List Nat} {ss : List WStm} {r : List Nat} {x y : Nat} (h : parse z = .ok ss) (h2 : checkAll ⟨0, [], 0, 0⟩ ss = .error (r, x, y)) : readP z = .error (.chk r x y) := by simp only [readP, h, h2]
theorem readP_ok {z : List Nat} {ss : List WStm} {k : Chk} (h : parse z = .ok ss) (h2 : checkAll ⟨0, [], 0, 0⟩ ss = .ok k) : readP z = .ok (gardOf ss) := by simp only [readP, h, h2]
theorem starts_len {ns : List (List Nat)} (ss : List WStm) : (startsOf ns ss).length ≤ ss.length := List.length_filterMap_le ..
theorem stm_mono {C CT : Addr} {H H' : Hp} {a : Addr} {s : WStm} (h : StmAt C CT H a s) (e : Same H H') : StmAt C CT H' a s := by
  obtain ⟨dq, k, ln, lm, ns, ms, W⟩ := h
  exact ⟨dq, k, ln, lm, ns, ms, e _ _ W.ob, W.ke.mono e, e _ _ W.nl, W.ne.imp fun _ _ h => h.mono e, e _ _ W.ml, W.me.imp fun _ _ h => h.mono e, W.d⟩
theorem lst_mono {C CT : Addr} {H H' : Hp} {l : Addr} {ss : List WStm} (h : LstAt (StmAt C CT) H l ss) (e : Same H H') : LstAt (StmAt C CT) H' l ss := by
  obtain ⟨as, h1, h2⟩ := h
  exact ⟨as, e _ _ h1, h2.imp fun _ _ h => stm_mono h e⟩
theorem each_drop {α : Type} {R : Addr → α → Prop} {as : List Addr} {ts : List α} {n : Nat} (h : Each R as ts) : Each R (as.drop n) (ts.drop n) :=
  ⟨by rw [List.length_drop, List.length_drop, h.1], fun i a t ha ht => h.2 (n + i) a t (by rw [List.getElem?_drop] at ha; exact ha) (by rw [List.getElem?_drop] at ht; exact ht)⟩
theorem cut3 (qs : List Addr) : cutV (qs.map V.ref) (some 3) none = (qs.drop 3).map V.ref := by
  have e : ∀ xs : List V, cutV xs (some 3) none = xs.drop 3 := fun xs => by
    unfold cutV
    rw [HT.sIx_none, show HT.sIx xs.length 0 (some 3) = min 3 xs.length from HT.sIx_nat xs.length 0 3]
    rw [List.take_of_length_le (by rw [List.length_drop]; omega)]
    by_cases h : 3 ≤ xs.length
    · rw [Nat.min_eq_left h]
    · rw [Nat.min_eq_right (by omega), List.drop_length, List.drop_eq_nil_of_le (by omega)]
  rw [e, List.map_drop]
theorem each_mono {H H' : Hp} {as : List Addr} {r : List (List (Nat × Nat))} (h : Each (RowAt H) as r) (e : Same H H') : Each (RowAt H') as r := h.imp fun a l ⟨bs, h1, h2⟩ => ⟨bs, e _ _ h1, h2.imp fun b x h => e _ _ h⟩
theorem gard_mono {CG : Addr} {H H' : Hp} {g : Addr} {G : WGard} (h : GardAt CG H g G) (e : Same H H') : GardAt CG H' g G := by
  obtain ⟨dx, nl, rl, sl, dl, ql, sas, qas, h1, h2, h3, h4, h5, h6, h7, h8, h9, h10⟩ := h.ex
  exact ⟨dx, nl, rl, sl, dl, ql, sas, qas, e _ _ h1, e _ _ h2, e _ _ h3, e _ _ h4, h5.imp fun a x h => e _ _ h, e _ _ h6, e _ _ h7, each_mono h8 e, h9, h10⟩
section
variable {P : Program} {w : World} {K : PySem.W.Frag} {mg : Str → Option Value} {base : Heap}
theorem sc__build_garden : FnScope ["statements", "period", "limit", "names", "token", "rest"] ["statements"] (defScope s__build_garden) := ⟨rfl, rfl, rfl, by decide +kernel, rfl, by decide +kernel, by decide +kernel⟩
def sp__build_garden (CG C CT : Addr) (TT : List (Addr × Str)) : Sp := fun vs H Q _ => ∃ (z : List Nat) (q : Addr) (ss : List WStm) (kk : Chk), vs = [.ref q] ∧ z.length ≤ 40000 ∧ parse z = .ok ss ∧ checkAll ⟨0, [], 0, 0⟩ ss = .ok kk ∧ LstAt (StmAt C CT) H q ss ∧ Tabs TT H ∧
  ∀ g H', ExtN H H' → Tabs TT H' → H g = none → GardAt CG H' g (gardOf ss) → Q (.ref g) H'
theorem ok__build_garden {f C CT CG : Addr} {fd : FuncData} {TT : List (Addr × Str)} (F : Fun K "_build_garden" "_build_garden" s__build_garden f fd) (T : TopF w K mg) (TK : CToken K C) (TS : CStatement K CT)
    (D_Garden : DC P w K mg base CX0 4 CG "Garden" ["self", "period", "limit", "names", "rank", "starts", "dry"] (sp_Garden___init__ CG TT))
    (D__rank : DF P w K mg base CX0 1 "_rank" ["statements", "names"] (sp__rank C CT)) (D__starts : DF P w K mg base CX0 1 "_starts" ["statements", "names"] (sp__starts C CT)) (D__dry : DF P w K mg base CX0 1 "_dry" ["statements", "period"] (sp__dry C CT)) :
    FnOk P w K mg base CX0 6 f fd ["statements"] (sp__build_garden CG C CT TT) := by
  refine F.ok sc__build_garden (fun vs H Q E h => ?_) (fun cdv A outer s H2 vs Q E hr h => ?_)
  · obtain ⟨z, q, ss, kk, rfl, _⟩ := h
    rfl
  · obtain ⟨z, q, ss, kk, rfl, hz, hp, hk, hL, hT, kY⟩ := h
    refine ⟨_, (pss_cons (ps_set (i := 1) sc__build_garden.nd rfl (Or.inl rfl) (pe_callTy call_int_str (by rfl) T.z_int (by decide +kernel) (pa_cons (pe_fld (pe_ix ix_list (pe_fld (pe_ix ix_list (pv 0) pe_int (fun _ _ => rfl)) rfl) pe_int (fun _ _ => rfl)) rfl) pa_nil)))
      (pss_cons (ps_set (i := 2) sc__build_garden.nd rfl (Or.inl rfl) (pe_callTy call_int_str (by rfl) T.z_int (by decide +kernel) (pa_cons (pe_fld (pe_ix ix_list (pe_fld (pe_ix ix_list (pv 0) pe_int (fun _ _ => rfl)) rfl) pe_int (fun _ _ => rfl)) rfl) pa_nil)))
      (pss_cons (ps_setLc (i := 3) (own := [("token", 4)]) (g := gName 4) (tt := tYes) (te := (tFld K (tVar 4) "text")) (by rfl) sc__build_garden.nd rfl rfl (sw_true rfl rfl rfl (by decide +kernel)) (pi_list (pe_fld (pe_ix ix_list (pv 0) pe_int (fun _ _ => rfl)) rfl)) (blkOk_by (N := ["statements", "period", "limit", "names", "token", "rest"]) (sc := defScope s__build_garden) (by decide +kernel)) (fun _ _ _ _ _ => (pg_name (i := 4) sc__build_garden.nd rfl (Or.inl rfl))) (fun _ _ _ _ _ => pts_nil) (fun _ _ _ _ _ => (pe_fld (pv 4) rfl)))
      (pss_cons (ps_set (i := 5) sc__build_garden.nd rfl (Or.inl rfl) (pe_slice sl_list (pv 0) (po_some pe_int) po_none))
      (pss_one (ps_ret (pe_make D_Garden.M D_Garden.G (hr.mono (by decide)) rfl D_Garden.mg D_Garden.b .nil pass0 (pa_cons (pv 1) (pa_cons (pv 2) (pa_cons (pv 3) (pa_cons (pe_call D__rank.G (hr.mono (by decide)) rfl D__rank.mg D__rank.kp D__rank.b .nil pass0 (pa_cons (pv 5) (pa_cons (pv 3) pa_nil))) (pa_cons (pe_call D__starts.G (hr.mono (by decide)) rfl D__starts.mg D__starts.kp D__starts.b .nil pass0 (pa_cons (pv 5) (pa_cons (pv 3) pa_nil))) (pa_cons (pe_call D__dry.G (hr.mono (by decide)) rfl D__dry.mg D__dry.kp D__dry.b .nil pass0 (pa_cons (pv 5) (pa_cons (pv 1) pa_nil))) pa_nil))))))))))))), ?_⟩
    walk_at "rd"
    obtain ⟨hAll, s0, s1', s2', rest, hSh⟩ := parse_good hp hz
    obtain ⟨c8, c60, _, cR, _⟩ := check_good hk hAll hSh
    obtain ⟨e0, k0, k1, k2, _, hll⟩ := hSh
    subst e0
    obtain ⟨qs, hq1, hE⟩ := hL
    obtain ⟨g0, _, _⟩ := hAll s0 (by simp)
    obtain ⟨g1, _, _⟩ := hAll s1' (by simp)
    obtain ⟨g2, _, l2⟩ := hAll s2' (by simp)
    obtain ⟨n0, hn0⟩ : ∃ t, s0.numbers = [t] := by
      have := g0.l1 (.inl k0)
      match s0.numbers, this with
      | [t], _ => exact ⟨t, rfl⟩
    obtain ⟨n1, hn1⟩ : ∃ t, s1'.numbers = [t] := by
      have := g1.l1 (.inr k1)
      match s1'.numbers, this with
      | [t], _ => exact ⟨t, rfl⟩
    rw [hn0] at c60 cR
    have c60 : num n0 ≤ 60 := c60
    have cR : ∀ s ∈ rest, RestOk (s2'.names.map (·.text)) (num n0) s := cR
    have eG : gardOf (s0 :: s1' :: s2' :: rest) = ⟨num n0, num n1, s2'.names.map (·.text), rankOf (s2'.names.map (·.text)) rest, sortT (startsOf (s2'.names.map (·.text)) rest), dryOf (num n0) rest⟩ := by
      simp only [gardOf, hn0, hn1]
      rfl
    rw [eG] at kY
    have hq2 := hq1
    obtain ⟨a0, ha0, dq0, kk0, ln0, lm0, nas0, mas0, W0⟩ := hE.get (i := 0) (by simp)
    obtain ⟨a1, ha1, dq1, kk1, ln1, lm1, nas1, mas1, W1⟩ := hE.get (i := 1) (by simp)
    obtain ⟨a2, ha2, dq2, kk2, ln2, lm2, nas2, mas2, W2⟩ := hE.get (i := 2) (by simp)
    have W0m := W0.me
    rw [show (s0 :: s1' :: s2' :: rest)[0].numbers = [n0] from hn0] at W0m
    obtain ⟨b0, hb0, dy0, hy0⟩ := W0m.get (i := 0) (by simp)
    have W1m := W1.me
    rw [show (s0 :: s1' :: s2' :: rest)[1].numbers = [n1] from hn1] at W1m
    obtain ⟨b1, hb1, dy1, hy1⟩ := W1m.get (i := 0) (by simp)
    have N0 := (g0.nu n0 (by rw [hn0]; simp)).1.nu (g0.nu n0 (by rw [hn0]; simp)).2
    have N1 := (g1.nu n1 (by rw [hn1]; simp)).1.nu (g1.nu n1 (by rw [hn1]; simp)).2
    refine ⟨_, SqL.of hq2, _, atI_nat (j := 0) (by rw [List.getElem?_map, ha0]; rfl), a0, rfl, CT, dq0, _, id W0.ob, TS.cl, TS.n3, .ref lm0, by simp only [V.ref.injEq, V.int.injEq, V.str.injEq, List.cons.injEq, Option.some.injEq, HO.ins.injEq, and_assoc, exists_and_left, exists_eq_left', exists_eq_left, true_and, and_true, upd_same, upd_upd, putF_nil, putF_cons, lookup_put, lookup_nil, if_false, if_true, List.length_cons, List.length_nil, exists_eq', exists_eq, Nat.reduceAdd, Nat.reduceLT, Nat.zero_add, n_keyword_names, n_keyword_numbers, n_names_keyword, n_names_numbers, n_numbers_keyword, n_numbers_names], lm0, rfl, _, SqL.of (id W0.ml), _, atI_nat (j := 0) (by rw [List.getElem?_map, hb0]; rfl), b0, rfl, C, dy0, _, id hy0, TK.cl, TK.n2, .str (S n0.text), by simp only [V.ref.injEq, V.int.injEq, V.str.injEq, List.cons.injEq, Option.some.injEq, HO.ins.injEq, and_assoc, exists_and_left, exists_eq_left', exists_eq_left, true_and, and_true, upd_same, upd_upd, putF_nil, putF_cons, lookup_put, lookup_nil, if_false, if_true, List.length_cons, List.length_nil, exists_eq', exists_eq, Nat.reduceAdd, Nat.reduceLT, Nat.zero_add, n_kind_text, n_kind_line, n_kind_column, n_text_kind, n_text_line, n_text_column, n_line_kind, n_line_text, n_line_column, n_column_kind, n_column_text, n_column_line]; rfl, ?_⟩
    refine ⟨_, rfl, _, int_num N0, by rw [S_len]; have := N0.2.2; omega, _, SqL.of hq2, _, atI_nat (j := 1) (by rw [List.getElem?_map, ha1]; rfl), a1, rfl, CT, dq1, _, id W1.ob, TS.cl, TS.n3, .ref lm1, by simp only [V.ref.injEq, V.int.injEq, V.str.injEq, List.cons.injEq, Option.some.injEq, HO.ins.injEq, and_assoc, exists_and_left, exists_eq_left', exists_eq_left, true_and, and_true, upd_same, upd_upd, putF_nil, putF_cons, lookup_put, lookup_nil, if_false, if_true, List.length_cons, List.length_nil, exists_eq', exists_eq, Nat.reduceAdd, Nat.reduceLT, Nat.zero_add, n_keyword_names, n_keyword_numbers, n_names_keyword, n_names_numbers, n_numbers_keyword, n_numbers_names], lm1, rfl, _, SqL.of (id W1.ml), _, atI_nat (j := 0) (by rw [List.getElem?_map, hb1]; rfl), b1, rfl, C, dy1, _, id hy1, TK.cl, TK.n2, .str (S n1.text), by simp only [V.ref.injEq, V.int.injEq, V.str.injEq, List.cons.injEq, Option.some.injEq, HO.ins.injEq, and_assoc, exists_and_left, exists_eq_left', exists_eq_left, true_and, and_true, upd_same, upd_upd, putF_nil, putF_cons, lookup_put, lookup_nil, if_false, if_true, List.length_cons, List.length_nil, exists_eq', exists_eq, Nat.reduceAdd, Nat.reduceLT, Nat.zero_add, n_kind_text, n_kind_line, n_kind_column, n_text_kind, n_text_line, n_text_column, n_line_kind, n_line_text, n_line_column, n_column_kind, n_column_text, n_column_line]; rfl, ?_⟩
    refine ⟨_, rfl, _, int_num N1, by rw [S_len]; have := N1.2.2; omega, ?_⟩
    have hg2n := g2.nm
    refine ⟨_, rfl, q, _, 2, .ref a2, rfl, rfl, SqL.of hq2, atI_nat (j := 2) (by rw [List.getElem?_map, ha2]; rfl), a2, CT, dq2, _, .ref ln2, rfl, id W2.ob, TS.cl, TS.n2, by simp only [V.ref.injEq, V.int.injEq, V.str.injEq, List.cons.injEq, Option.some.injEq, HO.ins.injEq, and_assoc, exists_and_left, exists_eq_left', exists_eq_left, true_and, and_true, upd_same, upd_upd, putF_nil, putF_cons, lookup_put, lookup_nil, if_false, if_true, List.length_cons, List.length_nil, exists_eq', exists_eq, Nat.reduceAdd, Nat.reduceLT, Nat.zero_add, n_keyword_names, n_keyword_numbers, n_names_keyword, n_names_numbers, n_numbers_keyword, n_numbers_names], ln2, rfl, ⟨_, SqL.of (id W2.nl)⟩, fun D hD => ?_⟩
    have hE2 : Each (TokAt C H2) nas2 s2'.names := W2.ne
    refine lc_map (ys := (s2'.names.map (·.text)).map fun n => V.str (S n)) hD (id W2.nl) (by rw [List.length_map, List.length_map, List.length_map, hE2.1]) (by rw [List.length_map, hE2.1]; omega) (fun j x y H' k hx hy s3 hk => ?_) ?_
    · obtain ⟨b, t, rfl, ht, ⟨dz, hTz⟩⟩ := toks_map hE2 hx
      rw [List.getElem?_map, List.getElem?_map, ht] at hy
      obtain rfl := Option.some.inj hy
      exact ⟨_, rfl, b, C, dz, _, _, rfl, s3 _ _ hTz, TK.cl, TK.n2, by simp only [V.ref.injEq, V.int.injEq, V.str.injEq, List.cons.injEq, Option.some.injEq, HO.ins.injEq, and_assoc, exists_and_left, exists_eq_left', exists_eq_left, true_and, and_true, upd_same, upd_upd, putF_nil, putF_cons, lookup_put, lookup_nil, if_false, if_true, List.length_cons, List.length_nil, exists_eq', exists_eq, Nat.reduceAdd, Nat.reduceLT, Nat.zero_add, n_kind_text, n_kind_line, n_kind_column, n_text_kind, n_text_line, n_text_column, n_line_kind, n_line_text, n_line_column, n_column_kind, n_column_text, n_column_line], hk⟩
    have s3 : Same H2 (upd H2 D (.lst ((s2'.names.map (·.text)).map fun n => V.str (S n)))) := same_new hD
    have hD3 : (upd H2 D (.lst ((s2'.names.map (·.text)).map fun n => V.str (S n)))) D = some (.lst ((s2'.names.map (·.text)).map fun n => V.str (S n))) := upd_same
    generalize upd H2 D (.lst ((s2'.names.map (·.text)).map fun n => V.str (S n))) = H3 at *
    generalize (s2'.names.map (·.text)) = ns at *
    have hq3 := s3 _ _ hq2
    refine ⟨_, SqL.of hq3, fun p hp => ?_⟩
    rw [cut3]
    have s4 : Same H3 (upd H3 p (.lst ((qs.drop 3).map V.ref))) := same_new hp
    have hp4 : (upd H3 p (.lst ((qs.drop 3).map V.ref))) p = some (.lst ((qs.drop 3).map V.ref)) := upd_same
    generalize upd H3 p (.lst ((qs.drop 3).map V.ref)) = H4 at *
    have s14 : Same H2 H4 := s3.trans s4
    have hL4 : LstAt (StmAt C CT) H4 p rest := ⟨qs.drop 3, hp4, each_drop (hE.imp fun _ _ h => stm_mono h s14)⟩
    have hrl : rest.length ≤ 50000 := by simp at hll; omega
    refine ⟨p, D, rest, ns, num n0, rfl, hL4, s4 _ _ hD3, c8, cR, hrl, fun p2 H5 hp2 s5 h5 => ?_⟩
    refine ⟨p, D, rest, ns, num n0, rfl, lst_mono hL4 s5, s5 _ _ (s4 _ _ hD3), cR, hrl, fun p3 H6 as hp3 s6 h6 hE6 => ?_⟩
    refine ⟨p, rest, ns, num n0, rfl, lst_mono hL4 (s5.trans s6), cR, hrl, c60, fun p4 H7 hp4 s7 h7 => ?_⟩
    intro x5 dx hx5 hdx hne
    have s07 : Same H2 H7 := ((s14.trans s5).trans s6).trans s7
    have s78 : Same H7 (upd (upd H7 dx (.own x5)) x5 (.ins CG dx [])) := same_mut (same_new hdx) hx5
    have h8 : (upd (upd H7 dx (.own x5)) x5 (.ins CG dx [])) x5 = some (.ins CG dx []) := upd_same
    generalize upd (upd H7 dx (.own x5)) x5 (.ins CG dx []) = H8 at *
    have s08 := s07.trans s78
    refine ⟨x5, dx, D, p2, p3, p4, num n0, num n1, ns, _, as, _, _, rfl, h8, s78 _ _ (s7 _ _ (s6 _ _ (s5 _ _ (s4 _ _ hD3)))), s78 _ _ (s7 _ _ (s6 _ _ h5)), s78 _ _ (s7 _ _ h6), hE6.imp fun _ _ h => s78 _ _ (s7 _ _ h), s78 _ _ h7, c60, (fun x hx => (starts_lt cR x hx).1), Nat.le_trans (starts_len rest) hrl, hT.ext s08, fun H9 sn t9 hG => ⟨rfl, ?_⟩⟩
    exact kY x5 H9 (fun b o e nt => sn b o (ne_of_none e (s07.free hx5)) (s08 b o e) nt) t9 (s07.free hx5) hG
theorem sc_read_plans : FnScope ["plans", "parsed", "plan", "statements"] ["plans"] (defScope s_read_plans) := ⟨rfl, rfl, rfl, by decide +kernel, rfl, by decide +kernel, by decide +kernel⟩
def IRd (pl D : Addr) (ss : List WStm) (H1 : Hp) (i : Nat) (σ : L2.St) (H' : Hp) : Prop := ∃ v2 v3, σ = [some (.ref pl), some (.ref D), v2, v3] ∧ Same H1 H' ∧ (i = 1 → ∃ kk, checkAll ⟨0, [], 0, 0⟩ ss = .ok kk)
def sp_read_plans (CG CS CC : Addr) (TT : List (Addr × Str)) : Sp := fun vs H Q E => ∃ (pl : Addr) (z : List Nat), vs = [.ref pl] ∧ H pl = some (.lst [.str (S z)]) ∧ z.length ≤ 40000 ∧ Tabs TT H ∧
  (∀ G, readP z = .ok G → ∀ p g H', ExtN H H' → Tabs TT H' → H g = none → GardAt CG H' g G → H' p = some (.lst [.ref g]) → Q (.ref p) H') ∧ (∀ x y, readP z = .error (.syn x y) → ESyn CS H E x y) ∧ (∀ r x y, readP z = .error (.chk r x y) → EChk CC H E r x y)
theorem ok_read_plans {f C CT CS CC CG : Addr} {fd : FuncData} {TT : List (Addr × Str)} (F : Fun K "read_plans" "read_plans" s_read_plans f fd)
    (D_parse_plan : DF P w K mg base (L2.CX P w) 12 "parse_plan" ["plan"] (sp_parse_plan C CT CS)) (D_check_statements : DF P w K mg base (L2.CX P w) 11 "check_statements" ["statements"] (sp_check_statements C CT CC))
    (D__build_garden : DF P w K mg base CX0 6 "_build_garden" ["statements"] (sp__build_garden CG C CT TT)) :
    FnOk P w K mg base (L2.CX P w) 13 f fd ["plans"] (sp_read_plans CG CS CC TT) := by
  refine F.okX sc_read_plans (fun vs H Q E h => ?_) (fun cdv A outer s H vs Q E hr h => ?_)
  · obtain ⟨pl, z, rfl, _⟩ := h
    rfl
  · obtain ⟨pl, z, rfl, hpl, hz, hT, kY, kS, kC⟩ := h
    have D_parse_plan := D_parse_plan.besideX
    have D__build_garden := D__build_garden.beside0
    refine ⟨_, (pss_cons (ps_setLcX (i := 1) (own := [("plan", 2)]) (g := gName 2) (tt := tYes) (te := (tCall (beside (sp_parse_plan C CT CS)) [] E (tCons (tVar 2) tNil))) rfl rfl rfl rfl (by rfl) sc_read_plans.nd rfl rfl (sw_true rfl rfl rfl (by decide +kernel)) (pi_list (pv 0)) (blkOk_by (N := ["plans", "parsed", "plan", "statements"]) (sc := defScope s_read_plans) (by decide +kernel)) (fun _ _ _ _ _ => (pg_name (i := 2) sc_read_plans.nd rfl (Or.inl rfl))) (fun _ _ _ _ _ => pts_nil) (fun _ _ _ _ _ _ _ tk => (pe_call D_parse_plan.G (hr.mono (by decide)) rfl D_parse_plan.mg D_parse_plan.kp D_parse_plan.b .nil (passes_call tk fun _ _ _ _ z => z) (pa_cons (pv 2) pa_nil))))
      (pss_cons (ps_for (passes_of rfl) rfl (pi_list (pv 1)) (pg_name (i := 3) sc_read_plans.nd rfl (Or.inl rfl)) (pss_one (ps_expr (pe_call D_check_statements.G (hr.mono (by decide)) rfl D_check_statements.mg D_check_statements.kp D_check_statements.b .nil (passes_call (takes_of rfl rfl rfl rfl) fun _ _ _ _ z => z) (pa_cons (pv 3) pa_nil)))))
      (pss_one (ps_ret (pe_lc (own := [("statements", 3)]) (g := gName 3) (tt := tYes) (te := (tCall (beside (sp__build_garden CG C CT TT)) [] E0 (tCons (tVar 3) tNil))) rfl sc_read_plans.nd (pi_list (pv 1)) (blkOk_by (N := ["plans", "parsed", "plan", "statements"]) (sc := defScope s_read_plans) (by decide +kernel)) (fun _ _ _ _ _ => (pg_name (i := 3) sc_read_plans.nd rfl (Or.inl rfl))) (fun _ _ _ _ _ => pts_nil) (fun _ _ _ _ _ => (pe_call D__build_garden.G (hr.mono (by decide)) rfl D__build_garden.mg D__build_garden.kp D__build_garden.b .nil pass0 (pa_cons (pv 3) pa_nil)))))))), ?_⟩
    walk_at "rd"
    refine ⟨_, rfl, pl, rfl, ⟨_, SqL.of hpl⟩, fun D hD => ?_⟩
    have nP : pl ≠ D := ne_of_none hpl hD
    refine lc_list (xs := [.str (S z)]) (fun i H' => (i = 0 ∧ H' = upd H D (.lst [])) ∨ (i = 1 ∧ ∃ ss q, parse z = .ok ss ∧ Same H H' ∧ LstAt (StmAt C CT) H' q ss ∧ H' D = some (.lst [.ref q]))) (.inl ⟨rfl, rfl⟩) (fun i H' _ e => ?_) (fun i x H' hx e => ?_) (fun H' e => ?_)
    · rcases e with ⟨_, rfl⟩ | ⟨_, ss, q, _, s1, _⟩
      · exact SqL.of ((same_new hD) _ _ hpl)
      · exact SqL.of (s1 _ _ hpl)
    · have hi : i = 0 := by
        cases i with
        | zero => rfl
        | succ n => simp at hx
      subst hi
      obtain rfl : V.str (S z) = x := by simpa using hx
      obtain ⟨_, rfl⟩ | ⟨h1, _⟩ := e
      · refine ⟨rfl, ?_⟩
        walk_at "rd"
        have sm : ∀ {H1 : Hp} {o : HO}, Same (hide (upd H D (.lst [])) D) H1 → Same H (upd H1 D o) := fun s b o hb => by
          have n := ne_of_none hb hD
          rw [upd_ne n]
          exact s b o (by rw [hide_ne n, upd_ne n]; exact hb)
        refine ⟨_, rfl, D, [], upd_same, z, rfl, hz, fun ss hp q H1 hq s1 hL nD => ⟨[], upd_same, by decide, .inr ⟨ss, hp, ?_, q, ?_, upd_same⟩⟩, fun x y he => ?_⟩
        · rw [upd_upd]
          exact sm s1
        · rw [upd_upd]
          exact lst_mono hL (same_new nD)
        · intro d fs H2 hd s hx2 hl hc nD
          have n : d ≠ D := ne_of_none hx2 nD
          exact kS x y (readP_syn he) d fs (upd H2 D (.lst [])) (by rw [hide_ne n, upd_ne n] at hd; exact hd) (sm s) (by rw [upd_ne n]; exact hx2) hl hc
      · cases h1
    · obtain ⟨h0, _⟩ | ⟨_, ss, q, hp, s1, hL, hD1⟩ := e
      · cases h0
      generalize H' = H1 at *
      walk_at "rd"
      obtain ⟨hAll, s0, s1', s2', rest, hSh⟩ := parse_good hp hz
      refine ⟨_, rfl, D, rfl, ⟨_, SqL.of hD1⟩, ?_⟩
      refine for_it (walk_list (xs := [.ref q])) (IRd pl D ss H1) ⟨none, none, rfl, Same.refl H1, fun h => nomatch h⟩ (fun i σ H' _ h => ?_) ?_ ?_
      · obtain ⟨_, _, _, s2, _⟩ := h
        exact SqL.of (s2 _ _ hD1)
      · rintro i x σ H2 H3 hi ⟨v2, v3, rfl, s2, _⟩ ⟨rfl, ex⟩
        have hi0 : i = 0 := by
          cases i with
          | zero => rfl
          | succ n => simp at hi
        subst hi0
        obtain rfl : V.ref q = x := by simpa using ex
        walk_at "rd"
        exact ⟨q, ss, rfl, lst_mono hL s2, hAll, fun k hk H4 s3 => ⟨_, _, rfl, s2.trans s3, fun _ => ⟨k, hk⟩⟩, fun r x y he => (kC r x y (readP_chk hp he)).mono (s1.trans s2)⟩
      · rintro σ H2 ⟨v2, v3, rfl, s2, hk⟩
        obtain ⟨kk, hk⟩ := hk rfl
        walk_at "rd"
        refine ⟨_, rfl, D, rfl, ⟨_, SqL.of (s2 _ _ hD1)⟩, fun D2 hD2 => ?_⟩
        have s3 := s1.trans s2
        have n2 : D ≠ D2 := ne_of_none (s2 _ _ hD1) hD2
        refine lc_list (xs := [.ref q]) (fun i H' => (i = 0 ∧ H' = upd H2 D2 (.lst [])) ∨ (i = 1 ∧ H' D = some (.lst [.ref q]) ∧ ∃ g, ExtN H H' ∧ Tabs TT H' ∧ H g = none ∧ GardAt CG H' g (gardOf ss) ∧ H' D2 = some (.lst [.ref g]))) (.inl ⟨rfl, rfl⟩) (fun i H' _ e => ?_) (fun i x H' hx e => ?_) (fun H' e => ?_)
        · rcases e with ⟨_, rfl⟩ | ⟨_, h, _⟩
          · exact SqL.of ((same_new hD2) _ _ (s2 _ _ hD1))
          · exact SqL.of h
        · have hi : i = 0 := by
            cases i with
            | zero => rfl
            | succ n => simp at hx
          subst hi
          obtain rfl : V.ref q = x := by simpa using hx
          obtain ⟨_, rfl⟩ | ⟨h1, _⟩ := e
          · refine ⟨rfl, ?_⟩
            walk_at "rd"
            have hs : Same H2 (hide (upd H2 D2 (.lst [])) D2) := fun b o hb => by
              have n := ne_of_none hb hD2
              rw [hide_ne n, upd_ne n]
              exact hb
            refine ⟨_, rfl, D2, [], upd_same, z, q, ss, kk, rfl, hz, hp, hk, lst_mono (lst_mono hL s2) hs, hT.ext (s3.trans hs), fun g H4 e4 t4 hg gA nD => ⟨[], upd_same, by decide, .inr ⟨?_, ?_, ?_, g, ?_, ?_, upd_same⟩⟩⟩
            · rw [upd_upd, upd_ne n2]
              exact e4 _ _ (hs _ _ (s2 _ _ hD1)) (fun _ z => nomatch z)
            · rw [upd_upd]
              exact ((ExtN.of (s3.trans hs)).trans e4).trans (ExtN.of (same_new nD))
            · rw [upd_upd]
              exact t4.ext (same_new nD)
            · exact (s3.trans hs).free hg
            · rw [upd_upd]
              exact gard_mono gA (same_new nD)
          · cases h1
        · obtain ⟨h0, _⟩ | ⟨_, _, g, e4, t4, hg, gA, h2⟩ := e
          · cases h0
          exact kY _ (readP_ok hp hk) D2 g H' e4 t4 hg gA h2
theorem sc_read_plan : FnScope ["plan"] ["plan"] (defScope s_read_plan) := ⟨rfl, rfl, rfl, by decide +kernel, rfl, by decide +kernel, by decide +kernel⟩
def sp_read_plan (CG CS CC : Addr) (TT : List (Addr × Str)) : Sp := fun vs H Q E => ∃ z : List Nat, vs = [.str (S z)] ∧ z.length ≤ 40000 ∧ Tabs TT H ∧
  (∀ G, readP z = .ok G → ∀ g H', ExtN H H' → Tabs TT H' → H g = none → GardAt CG H' g G → Q (.ref g) H') ∧ (∀ x y, readP z = .error (.syn x y) → ESyn CS H E x y) ∧ (∀ r x y, readP z = .error (.chk r x y) → EChk CC H E r x y)
theorem ok_read_plan {f CS CC CG : Addr} {fd : FuncData} {TT : List (Addr × Str)} (F : Fun K "read_plan" "read_plan" s_read_plan f fd)
    (D_read_plans : DF P w K mg base (L2.CX P w) 13 "read_plans" ["plans"] (sp_read_plans CG CS CC TT)) :
    FnOk P w K mg base (L2.CX P w) 14 f fd ["plan"] (sp_read_plan CG CS CC TT) := by
  refine F.okX sc_read_plan (fun vs H Q E h => ?_) (fun cdv A outer s H vs Q E hr h => ?_)
  · obtain ⟨z, rfl, _⟩ := h
    rfl
  · obtain ⟨z, rfl, hz, hT, kY, kS, kC⟩ := h
    refine ⟨_, (pss_one (ps_ret (pe_ix ix_list (pe_call D_read_plans.G (hr.mono (by decide)) rfl D_read_plans.mg D_read_plans.kp D_read_plans.b .nil (passes_call (takes_of rfl rfl rfl rfl) fun _ _ _ _ z => z) (pa_cons (pe_lst (pa_cons (pv 0) pa_nil)) pa_nil)) pe_int (fun _ _ => rfl)))), ?_⟩
    walk_at "rd"
    refine ⟨by decide, fun p hp => ⟨p, z, rfl, upd_same, hz, hT.ext (same_new hp), fun G hG p2 g H2 e2 t2 hg gA hp2 => ?_, fun x y he => (kS x y he).mono (same_new hp), fun r x y he => (kC r x y he).mono (same_new hp)⟩⟩
    exact ⟨p2, rfl, _, SqL.of hp2, _, atI_nat (j := 0) rfl, kY G hG g H2 ((ExtN.of (same_new hp)).trans e2) t2 ((same_new hp).free hg) gA⟩
end

end Wv
end WvG6_
section WvK1_
set_option Elab.async false
set_option linter.all false
set_option maxRecDepth 100000
set_option maxHeartbeats 4000000
namespace Wv
open PySem L2
open SX (S S_len S_inj)
local macro_rules | `(tactic| walk_at "rd") => `(tactic| (try simp only [tVar, tC, tB, tAnd, tOr, tNot, tAndV, tOrV, tNotV, tIf, tNext, tSeq, tBreak, tCont, tDrop, tRet, tRetN, tIfS, gName, gNil, gCons, gTup, gSub, tAsg, tPar, tAug, tOp, tUn, rI, rI0, rU, rEq, rNe, tTest, tFld, tNil, tCons, tTup, tLst, tCB, tNoPart, tPart, tSl, rIxL, rIxT, rIxS, rSlL, rSlS, tBM0, tBM, rAppend, rExtend, rCat, rRep, rSetL, tM0, tM1, tCall, tMeth, tMake, sFld, sFldAug, rAdd, rSub, ipI, tBM0,
  scal_ss, scal_ii, scal_bb, scal_ns, scal_sn, scal_nn, tyV_str, L2.start, List.map_cons, List.map_nil, List.length_cons, List.length_nil, List.replicate, List.cons_append, List.nil_append, List.append_nil, List.getElem?_cons_zero, List.getElem?_cons_succ, List.set_cons_zero, List.set_cons_succ, Nat.reduceAdd, Nat.reduceSub, Nat.zero_add, Nat.sub_self, Nat.add_one_sub_one,
  Option.some.injEq, exists_eq_left, exists_eq_left', exists_eq', exists_eq, V.int.injEq, V.str.injEq, V.ref.injEq, V.bl.injEq, reduceCtorEq, List.cons.injEq, and_true, true_and, exists_and_left, exists_and_right, and_assoc, decide_true, decide_false, if_true, if_false, ite_true, ite_false, Bool.false_eq_true, Bool.true_eq_false, eq_self_iff_true, cx_K, nox_K, tMkSyn, tMkChk, tYes, bne, ne_eq, not_false_eq_true, not_true_eq_false, Bool.not_true, Bool.not_false, decide_eq_true_eq, Bool.not_eq_true', decide_eq_false_iff_not]))
open PySem.Spec PyProof.Rows
/-! ### the canonical text's mirror -/
inductive WWord where
  | s (l : List Nat)
  | n (k : Nat)
def numS (n : Nat) : List Nat := (Str.ofString (toString ((n : Nat) : Int))).cps.toList
theorem S_num (n : Nat) : (toString ((n : Nat) : Int) : Str) = S (numS n) := (S_of _).symm
def WWord.v : WWord → V
  | .s l => .str (S l)
  | .n k => .int (k : Nat)
def WWord.t : WWord → List Nat
  | .s l => l
  | .n k => numS k
def lineOf (kw : List Nat) (ws : List WWord) : List Nat := TL.joinL [32] (kw :: ws.map (·.t)) ++ [59]
theorem join_S (a : List Nat) (ps : List (List Nat)) : Txt.join (S a) (ps.map S) = S (TL.joinL a ps) := by
  rw [TL.join_eq]
  have e := TL.tl_join (S a) (ps.map S)
  rw [List.map_map] at e
  have e2 : ps.map (TL.tl ∘ S) = ps := by
    have : ∀ l : List (List Nat), l.map (TL.tl ∘ S) = l := fun l => by
      induction l with
      | nil => rfl
      | cons x l ih => rw [List.map_cons, ih]; rfl
    exact this ps
  rw [e2] at e
  rw [← S_of (Str.join (S a) (ps.map S))]
  exact congrArg S e
theorem app_S (a b : List Nat) : (S a) ++ (S b) = S (a ++ b) := by
  rw [← S_of (S a ++ S b)]
  rw [PySem.Str.cps_append]
  simp [SX.S]
section
variable {X : Cx} {tg : Expr}
theorem call_str_any : CallR X (.type "str") (fun xs H Q => (∃ a, xs = [.str a] ∧ Q (.str a) H) ∨ ∃ i : Int, xs = [.int i] ∧ i.natAbs.log2 < 1920 ∧ Q (.str (toString i)) H) := by
  intro pins s σ H xs us Q I r h
  rcases h with h | h
  · exact SkE.call_str_str pins s σ H xs us Q I r h
  · exact call_str_int pins s σ H xs us Q I r h
/-- a walk over a list or a tuple -/
def iSeq (K : PySem.W.Frag) (tl : TE) : TI := fun σ H R => tl σ H fun x H1 => ∃ a, x = .ref a ∧ ((∃ xs, SqL K H1 a xs ∧ R (Itl K a) H1) ∨ ∃ xs, SqT K H1 a xs ∧ R (Itt K a) H1)
theorem pi_seq {l : Expr} {tl : TE} (hl : PE X l tl) : PI X tg l (iSeq X.K tl) := by
  refine ⟨fun pins s σ H R I h => ?_⟩
  refine thn (hl.run pins s σ H _ I h) fun v s1 ⟨x, H1, I1, r1, q1⟩ => ?_
  obtain ⟨a, e, ⟨xs, hq, q⟩ | ⟨xs, hq, q⟩⟩ := q1
  · subst e
    cases r1
    obtain ⟨its, rv, p, hz⟩ := I1.list hq
    refine wpAny_pyIter_list p.isList ?_
    refine ⟨s1.heap.objs.size, [s1.heap.objs.size], _, _, H1, rfl, I1.kept (t' := s1.toks) fun b o e => Heap.get?_push_of_some _ e, turn_list a _, ⟨_, Heap.get?_push_size _ rfl, rfl, rfl⟩, fun b hb => ?_, q⟩
    have e : b = s1.heap.objs.size := by simpa using hb
    subst e
    exact I1.fpOk (Nat.le_refl _) (I1.hok.fresh (Nat.le_refl _))
  · subst e
    cases r1
    obtain ⟨its, rv, p, hz⟩ := I1.tuple hq
    refine wpAny_pyIter_tuple (show s1.heap.IsTuple a its.toArray from p) ?_
    refine ⟨s1.heap.objs.size, [s1.heap.objs.size], _, _, H1, rfl, I1.kept (t' := s1.toks) fun b o e => Heap.get?_push_of_some _ e, turn_tuple a _, ⟨_, Heap.get?_push_size _ rfl, rfl, rfl⟩, fun b hb => ?_, q⟩
    have e : b = s1.heap.objs.size := by simpa using hb
    subst e
    exact I1.fpOk (Nat.le_refl _) (I1.hok.fresh (Nat.le_refl _))
end
theorem lc_mapT {K : PySem.W.Frag} {l D : Addr} {xs ys : List V} {n : Nat} {te : TE} {σ : L2.St} {H : Hp} {Qd : Hp → Prop} (hD : H D = none) (hl : H l = some (.tup xs)) (hy : ys.length = xs.length) (hz : xs.length ≤ 100000)
    (he : ∀ (i : Nat) (x y : V) (H' : Hp) (k : VK), xs[i]? = some x → ys[i]? = some y → Same H H' → k y H' → te (σ.set n (some x)) H' k) (hq : Qd (upd H D (.lst ys))) :
    ∃ W : Nat → Nat → Hp → Prop, (∃ m, W 0 m (upd H D (.lst []))) ∧ ∀ i m H, W i m H →
      ((Itt K l).stop i H ∧ Qd H) ∨ ((Itt K l).go i H ∧ ∃ Nx : Hp → Prop, (∀ H', Nx H' → ∃ m', m' < m ∧ W (i + 1) m' H') ∧ ∀ x H', (Itt K l).yld i H x H' → gName n x (wipe σ [n]) H' fun σ2 H2 => wipe σ2 [n] = wipe σ [n] ∧ tYes σ2 H2 fun b H3 =>
        if b = true then te σ2 H3 fun y H4 => ∃ acc, H4 D = some (.lst acc) ∧ acc.length < sizeLine ∧ Nx (upd H4 D (.lst (acc ++ [y]))) else Nx H3) := by
  refine lc_tup (xs := xs) (fun i H' => H' = upd H D (.lst (ys.take i))) (by simp) (fun i H' _ e => ?_) (fun i x H' hx e => ?_) (fun H' e => ?_)
  · subst e
    exact SqT.of (same_new hD _ _ hl)
  · subst e
    have hi : i < xs.length := (List.getElem?_eq_some_iff.mp hx).1
    have hyi : ys[i]? = some ys[i] := List.getElem?_eq_getElem (by omega)
    show wipe ((wipe σ [n]).set n (some x)) [n] = wipe σ [n] ∧ (te ((wipe σ [n]).set n (some x)) _ _)
    have e1 : (wipe σ [n]).set n (some x) = σ.set n (some x) := set2
    rw [e1]
    refine ⟨set2, he i x ys[i] _ _ hx hyi (same_new hD) ⟨_, upd_same, ?_, ?_⟩⟩
    · rw [List.length_take]
      exact line_lt (by omega)
    · show upd (upd H D (.lst (ys.take i))) D (.lst (ys.take i ++ [ys[i]])) = upd H D (.lst (ys.take (i + 1)))
      rw [upd_upd, List.take_add_one, hyi]
      rfl
  · subst e
    rw [← hy, List.take_length]
    exact hq
section
variable {P : Program} {w : World} {K : PySem.W.Frag} {mg : Str → Option Value} {base : Heap}
theorem sc__line : FnScope ["keyword", "words", "word"] ["keyword", "words"] (defScope s__line) := ⟨rfl, rfl, rfl, by decide +kernel, rfl, by decide +kernel, by decide +kernel⟩
/-- words: small ones -/
def WOk (ws : List WWord) : Prop := ws.length ≤ 60000 ∧ ∀ x ∈ ws, match x with
  | .s l => l.length ≤ 100
  | .n k => k ≤ 1000000
theorem wok_len {ws : List WWord} (h : WOk ws) : ∀ x ∈ ws, x.t.length ≤ 100 := fun x hx => by
  have := h.2 x hx
  cases x with
  | s l => exact this
  | n k =>
    have h1 := toS_le (n := k) this
    rw [S_num, S_len] at h1
    show (numS k).length ≤ 100
    omega
theorem sum_le {b : Nat} : ∀ {ps : List (List Nat)}, (∀ x ∈ ps, x.length ≤ b) → (ps.map List.length).sum ≤ b * ps.length
  | [], _ => Nat.zero_le _
  | p :: ps, h => by
    have h1 := h p (List.mem_cons_self ..)
    have h2 := sum_le fun x hx => h x (List.mem_cons_of_mem _ hx)
    rw [List.map_cons, List.sum_cons, List.length_cons, Nat.mul_succ]
    omega
theorem joinL_len (a : List Nat) : ∀ ps : List (List Nat), (TL.joinL a ps).length ≤ (ps.map List.length).sum + ps.length * a.length
  | [] => Nat.zero_le _
  | [p] => by simp [TL.joinL]
  | p :: q :: r => by
    have ih := joinL_len a (q :: r)
    show (p ++ (a ++ TL.joinL a (q :: r))).length ≤ _
    rw [List.length_append, List.length_append, List.map_cons, List.sum_cons, List.length_cons, Nat.succ_mul]
    omega
def sp__line : Sp := fun vs H Q _ => ∃ (kw : List Nat) (l : Addr) (ws : List WWord), vs = [.str (S kw), .ref l] ∧ (H l = some (.lst (ws.map (·.v))) ∨ H l = some (.tup (ws.map (·.v)))) ∧ kw.length ≤ 100 ∧ WOk ws ∧ ∀ H', Same H H' → Q (.str (S (lineOf kw ws))) H'
theorem ok__line {f : Addr} {fd : FuncData} (F : Fun K "_line" "_line" s__line f fd) (T : TopF w K mg) : FnOk P w K mg base CX0 1 f fd ["keyword", "words"] sp__line := by
  refine F.ok sc__line (fun vs H Q E h => ?_) (fun cdv A outer s H vs Q E hr h => ?_)
  · obtain ⟨kw, l, ws, rfl, _⟩ := h
    rfl
  · obtain ⟨kw, l, ws, rfl, hL, hk, hw, k⟩ := h
    refine ⟨_, (pss_one (ps_ret (pe_op op_add_str (pe_join pe_str (pe_op op_cat (pe_lst (pa_cons (pv 0) pa_nil)) (pe_lc (own := [("word", 2)]) (g := gName 2) (tt := tYes) (te := (tCB _ (tCons (tVar 2) tNil))) rfl sc__line.nd (pi_seq (pv 1)) (blkOk_by (N := ["keyword", "words", "word"]) (sc := defScope s__line) (by decide +kernel)) (fun _ _ _ _ _ => (pg_name (i := 2) sc__line.nd rfl (Or.inl rfl))) (fun _ _ _ _ _ => pts_nil) (fun _ _ _ _ _ => (pe_callTy call_str_any (by rfl) T.z_str (by decide +kernel) (pa_cons (pv 2) pa_nil)))))) pe_str))), ?_⟩
    walk_at "rd"
    refine ⟨by decide +kernel, fun p hp => ?_⟩
    have s1 : Same H (upd H p (.lst [.str (S kw)])) := same_new hp
    have hp1 : (upd H p (.lst [.str (S kw)])) p = some (.lst [.str (S kw)]) := upd_same
    generalize upd H p (.lst [.str (S kw)]) = H1 at *
    have hwl := wok_len hw
    have hparts : ∀ x ∈ kw :: ws.map (·.t), x.length ≤ 100 := fun x hx => by
      rcases List.mem_cons.mp hx with rfl | hx
      · exact hk
      · obtain ⟨y, hy, rfl⟩ := List.mem_map.mp hx
        exact hwl y hy
    have hsum := sum_le hparts
    have hlen : (kw :: ws.map (·.t)).length ≤ 60001 := by
      rw [List.length_cons, List.length_map]
      have := hw.1
      omega
    have step : ∀ (i : Nat) (x y : V) (H' : Hp) (k : VK), (ws.map (·.v))[i]? = some x → ((ws.map (·.t)).map fun t => V.str (S t))[i]? = some y → Same H1 H' → k y H' →
        tCB (fun xs H Q => (∃ a, xs = [V.str a] ∧ Q (V.str a) H) ∨ ∃ i : Int, xs = [V.int i] ∧ i.natAbs.log2 < 1920 ∧ Q (V.str (toString i)) H) (tCons (tVar 2) tNil) ([some (V.str (S kw)), some (V.ref l), none].set 2 (some x)) H' k := by
      intro i x y H' k hx hy s2 hk2
      rw [List.getElem?_map] at hx
      obtain ⟨w, hwi, rfl⟩ := Option.map_eq_some_iff.mp hx
      rw [List.getElem?_map, List.getElem?_map, hwi] at hy
      obtain rfl := Option.some.inj hy
      have hm := hw.2 w (List.mem_of_getElem? hwi)
      cases w with
      | s z => exact ⟨_, rfl, .inl ⟨S z, rfl, hk2⟩⟩
      | n n =>
        refine ⟨_, rfl, .inr ⟨_, rfl, log_le hm, ?_⟩⟩
        rw [S_num]
        exact hk2
    refine ⟨_, rfl, l, rfl, ?_⟩
    have fin : ∀ D, H1 D = none → ∃ x, V.ref D = V.ref x ∧ ∃ x_1, (upd H1 D (.lst ((ws.map (·.t)).map fun t => V.str (S t)))) p = some (HO.lst x_1) ∧ ∃ x_2, (upd H1 D (.lst ((ws.map (·.t)).map fun t => V.str (S t)))) x = some (HO.lst x_2) ∧ x_1.length + x_2.length ≤ sizeLine ∧
        ∀ (p : Addr), (upd H1 D (.lst ((ws.map (·.t)).map fun t => V.str (S t)))) p = none → ∃ x, (SqL K (upd (upd H1 D (.lst ((ws.map (·.t)).map fun t => V.str (S t)))) p (HO.lst (x_1 ++ x_2))) p (List.map V.str x) ∨ SqT K (upd (upd H1 D (.lst ((ws.map (·.t)).map fun t => V.str (S t)))) p (HO.lst (x_1 ++ x_2))) p (List.map V.str x)) ∧
          (List.map (fun x => x.length) x).sum + x.length * (Str.ofString " ").length ≤ 16777216 ∧ (Txt.join (Str.ofString " ") x).length + (Str.ofString ";").length ≤ sizeLine ∧ Q (V.str (Txt.join (Str.ofString " ") x ++ Str.ofString ";")) (upd (upd H1 D (.lst ((ws.map (·.t)).map fun t => V.str (S t)))) p (HO.lst (x_1 ++ x_2))) := by
      intro D hD
      have s2 : Same H1 (upd H1 D (.lst ((ws.map (·.t)).map fun t => V.str (S t)))) := same_new hD
      refine ⟨D, rfl, _, s2 _ _ hp1, _, upd_same, ?_, fun p3 hp3 => ⟨(kw :: ws.map (·.t)).map S, .inl (SqL.of ?_), ?_, ?_, ?_⟩⟩
      · rw [List.length_map, List.length_map]
        have := hw.1
        show 1 + _ ≤ _
        exact line_of (by omega)
      · rw [upd_same]
        simp [List.map_map, Function.comp_def]
      · rw [List.map_map, List.length_map, show (List.map ((fun x => Str.length x) ∘ S) (kw :: ws.map (·.t))) = (kw :: ws.map (·.t)).map List.length from List.map_congr_left fun x _ => S_len ..]
        rw [str_blank, S_len]
        show _ + _ * 1 ≤ _
        omega
      · rw [str_blank, join_S, S_len, str_semi, S_len]
        have := joinL_len [32] (kw :: ws.map (·.t))
        show _ + 1 ≤ _
        rw [show ([32] : List Nat).length = 1 from rfl] at this
        rw [sizeLine_eq]
        omega
      · rw [str_blank, join_S, str_semi, app_S]
        exact k _ ((s1.trans s2).trans (same_new hp3))
    rcases hL with hL | hL
    · exact .inl ⟨_, SqL.of (s1 _ _ hL), fun D hD => lc_map hD (s1 _ _ hL) (by rw [List.length_map, List.length_map, List.length_map]) (by rw [List.length_map]; have := hw.1; omega) step (fin D hD)⟩
    · exact .inr ⟨_, SqT.of (s1 _ _ hL), fun D hD => lc_mapT hD (s1 _ _ hL) (by rw [List.length_map, List.length_map, List.length_map]) (by rw [List.length_map]; have := hw.1; omega) step (fin D hD)⟩
end

end Wv
end WvK1_
section WvK2_
set_option Elab.async false
set_option linter.all false
set_option maxRecDepth 100000
set_option maxHeartbeats 4000000
namespace Wv
open PySem L2
open SX (S S_len S_inj)
local macro_rules | `(tactic| walk_at "rd") => `(tactic| (try simp only [tVar, tC, tB, tAnd, tOr, tNot, tAndV, tOrV, tNotV, tIf, tNext, tSeq, tBreak, tCont, tDrop, tRet, tRetN, tIfS, gName, gNil, gCons, gTup, gSub, tAsg, tPar, tAug, tOp, tUn, rI, rI0, rU, rEq, rNe, tTest, tFld, tNil, tCons, tTup, tLst, tCB, tNoPart, tPart, tSl, rIxL, rIxT, rIxS, rSlL, rSlS, tBM0, tBM, rAppend, rExtend, rCat, rRep, rSetL, tM0, tM1, tCall, tMeth, tMake, sFld, sFldAug, rAdd, rSub, ipI, tBM0,
  scal_ss, scal_ii, scal_bb, scal_ns, scal_sn, scal_nn, tyV_str, L2.start, List.map_cons, List.map_nil, List.length_cons, List.length_nil, List.replicate, List.cons_append, List.nil_append, List.append_nil, List.getElem?_cons_zero, List.getElem?_cons_succ, List.set_cons_zero, List.set_cons_succ, Nat.reduceAdd, Nat.reduceSub, Nat.zero_add, Nat.sub_self, Nat.add_one_sub_one,
  Option.some.injEq, exists_eq_left, exists_eq_left', exists_eq', exists_eq, V.int.injEq, V.str.injEq, V.ref.injEq, V.bl.injEq, reduceCtorEq, List.cons.injEq, and_true, true_and, exists_and_left, exists_and_right, and_assoc, decide_true, decide_false, if_true, if_false, ite_true, ite_false, Bool.false_eq_true, Bool.true_eq_false, eq_self_iff_true, cx_K, nox_K, tMkSyn, tMkChk, tYes, bne, ne_eq, not_false_eq_true, not_true_eq_false, Bool.not_true, Bool.not_false, decide_eq_true_eq, Bool.not_eq_true', decide_eq_false_iff_not]))
open PySem.Spec PyProof.Rows
def dryAt (d : List Bool) (t : Nat) : Bool := d[t]?.getD false
def runStep (d : List Bool) (r : List (Nat × Nat)) (t : Nat) : List (Nat × Nat) :=
  if dryAt d t = true then (if 0 < t ∧ dryAt d (t - 1) = true then r.dropLast ++ [((r.getLast?.getD (0, 0)).1, t)] else r ++ [(t, t)]) else r
def runsTo (d : List Bool) (n : Nat) : List (Nat × Nat) := (List.range n).foldl (runStep d) []
def runsOf (d : List Bool) : List (Nat × Nat) := runsTo d d.length
theorem runsTo_succ (d : List Bool) (n : Nat) : runsTo d (n + 1) = runStep d (runsTo d n) n := by
  unfold runsTo
  rw [List.range_succ, List.foldl_append]
  rfl
theorem runsTo_ne {d : List Bool} {n : Nat} (h : dryAt d n = true) : runsTo d (n + 1) ≠ [] := by
  rw [runsTo_succ]
  unfold runStep
  rw [if_pos h]
  split <;> simp
theorem runStep_len (d : List Bool) (r : List (Nat × Nat)) (t : Nat) : (runStep d r t).length ≤ r.length + 1 := by
  unfold runStep
  split
  · split
    · rw [List.length_append, List.length_dropLast]
      simp
    · simp
  · omega
theorem ixN_last {n : Nat} (h : 0 < n) : ixN n (-1) = some (n - 1) := by
  unfold ixN
  rw [if_neg (by decide)]
  rw [if_pos (by omega)]
  congr 1
  omega
theorem drop_set {α : Type} {r : List α} {y : α} (h : r ≠ []) : r.dropLast ++ [y] = r.set (r.length - 1) y := by
  obtain ⟨l, x, rfl⟩ : ∃ l x, r = l ++ [x] := ⟨r.dropLast, r.getLast h, (List.dropLast_concat_getLast h).symm⟩
  rw [List.dropLast_concat, List.length_append]
  simp [List.set_append]
theorem Each.set {α : Type} {R : Addr → α → Prop} {as : List Addr} {ts : List α} {i : Nat} {p : Addr} {y : α} (h : Each R as ts) (r : R p y) : Each R (as.set i p) (ts.set i y) := by
  refine ⟨by rw [List.length_set, List.length_set, h.1], fun j a t ha ht => ?_⟩
  by_cases e : i = j
  · subst e
    have hi : i < as.length := by
      have := (List.getElem?_eq_some_iff.mp ha).1
      rw [List.length_set] at this
      exact this
    rw [List.getElem?_set_self hi] at ha
    rw [List.getElem?_set_self (by rw [← h.1]; exact hi)] at ht
    cases ha
    cases ht
    exact r
  · rw [List.getElem?_set_ne e] at ha
    rw [List.getElem?_set_ne e] at ht
    exact h.2 j a t ha ht
section
variable {P : Program} {w : World} {K : PySem.W.Frag} {mg : Str → Option Value} {base : Heap}
theorem sc_dry_runs : FnScope ["garden", "runs", "tick", "dry", "first", "_"] ["garden"] (defScope s_dry_runs) := ⟨rfl, rfl, rfl, by decide +kernel, rfl, by decide +kernel, by decide +kernel⟩
def sp_dry_runs (CG : Addr) : Sp := fun vs H Q _ => ∃ (g : Addr) (G : WGard), vs = [.ref g] ∧ GardAt CG H g G ∧ G.dry.length ≤ 60 ∧ ∀ q H' as, H q = none → Same H H' → H' q = some (.lst (as.map V.ref)) → Each (PairAt H') as (runsOf G.dry) → Q (.ref q) H'
def IRn (g q : Addr) (d : List Bool) (H : Hp) (i : Nat) (σ : L2.St) (H' : Hp) : Prop := ∃ (as : List Addr) (v2 v3 v4 v5 : Option V), σ = [some (.ref g), some (.ref q), v2, v3, v4, v5] ∧ Same H H' ∧ H' q = some (.lst (as.map V.ref)) ∧ Each (PairAt H') as (runsTo d i) ∧ as.length ≤ i
theorem ok_dry_runs {f CG : Addr} {fd : FuncData} (F : Fun K "dry_runs" "dry_runs" s_dry_runs f fd) (T : TopF w K mg) (TG : CGarden K CG) : FnOk P w K mg base CX0 1 f fd ["garden"] (sp_dry_runs CG) := by
  refine F.ok sc_dry_runs (fun vs H Q E h => ?_) (fun cdv A outer s H vs Q E hr h => ?_)
  · obtain ⟨g, G, rfl, _⟩ := h
    rfl
  · obtain ⟨g, G, rfl, hG, h60, k⟩ := h
    refine ⟨_, (pss_cons (ps_set (i := 1) sc_dry_runs.nd rfl (Or.inl rfl) (pe_lst pa_nil))
      (pss_cons (ps_for PassesOwn.never rfl (pi_enum (by rfl) T.z_enumerate (pa_cons (pe_fld (pv 0) rfl) pa_nil)) (pg_tup (by rfl) (pgs_cons (pg_name (i := 2) sc_dry_runs.nd rfl (Or.inl rfl)) (pgs_cons (pg_name (i := 3) sc_dry_runs.nd rfl (Or.inl rfl)) pgs_nil))) (pss_one (ps_if (PW.pt (pw_and (pt_val (pv 3)) (pw_and (pt_cmpR op_gt (pv 2) pe_int (nomark _)) (pw_and1 (pt_val (pe_ix ix_list (pe_fld (pv 0) rfl) (pe_op op_sub (pv 2) pe_int) (fun _ _ => rfl))))))) (pss_cons (ps_asg (pe_ix ix_list (pv 1) (pe_un un_neg pe_int) (fun _ _ => rfl)) (pg_tup (by rfl) (pgs_cons (pg_name (i := 4) sc_dry_runs.nd rfl (Or.inl rfl)) (pgs_cons (pg_name (i := 5) sc_dry_runs.nd rfl (Or.inl rfl)) pgs_nil))))
      (pss_one (ps_asg (pe_tup (pa_cons (pv 4) (pa_cons (pv 2) pa_nil))) (pg_sub (pv 1) (pe_un un_neg pe_int) set_list)))) (pss_one (ps_if (pt_val (pv 3)) (pss_one (ps_expr (pe_bm PySem.F.plainAttrs_list PySem.F.slot_list_append PySem.F.type_list_append mt_append (pv 1) (pa_cons (pe_tup (pa_cons (pv 2) (pa_cons (pv 2) pa_nil))) pa_nil)))) pss_nil)))))
      (pss_one (ps_ret (pv 1))))), ?_⟩
    obtain ⟨dx, nl, rl, sl, dl, ql, sas, qas, hob, hnl, hrl, hsl, hE, hdl, hR⟩ := hG.ex
    walk_at "rd"
    refine ⟨Nat.zero_le _, fun q hq => ?_⟩
    have s0 : Same H (upd H q (.lst [])) := same_new hq
    refine ⟨_, rfl, g, CG, dx, _, _, rfl, s0 _ _ hob, TG.cl, TG.n6, by simp only [V.ref.injEq, V.int.injEq, V.str.injEq, List.cons.injEq, Option.some.injEq, HO.ins.injEq, and_assoc, exists_and_left, exists_eq_left', exists_eq_left, true_and, and_true, upd_same, upd_upd, putF_nil, putF_cons, lookup_put, lookup_nil, if_false, if_true, List.length_cons, List.length_nil, exists_eq', exists_eq, Nat.reduceAdd, Nat.reduceLT, Nat.zero_add, n_period_limit, n_period_names, n_period_rank, n_period_starts, n_period_dry, n_period_requests, n_limit_period, n_limit_names, n_limit_rank, n_limit_starts, n_limit_dry, n_limit_requests, n_names_period, n_names_limit, n_names_rank, n_names_starts, n_names_dry, n_names_requests, n_rank_period, n_rank_limit, n_rank_names, n_rank_starts, n_rank_dry, n_rank_requests, n_starts_period, n_starts_limit, n_starts_names, n_starts_rank, n_starts_dry, n_starts_requests, n_dry_period, n_dry_limit, n_dry_names, n_dry_rank, n_dry_starts, n_dry_requests, n_requests_period, n_requests_limit, n_requests_names, n_requests_rank, n_requests_starts, n_requests_dry], dl, _, rfl, SqL.of (s0 _ _ hdl), ?_⟩
    refine for_it (walk_enum (xs := G.dry.map V.bl)) (IRn g q G.dry H) ⟨[], none, none, none, none, rfl, s0, upd_same, Each.nil, Nat.zero_le _⟩ (fun i σ H' _ h => ?_) ?_ ?_
    · obtain ⟨_, _, _, _, _, _, s4, _⟩ := h
      exact SqL.of (s4 _ _ hdl)
    · rintro i x σ H1 H2 hi ⟨as, v2, v3, v4, v5, rfl, s4, hQ, hEa, hla⟩ ⟨tp, x1, x2, rfl, hTp, rfl, e1, e2⟩
      rw [List.length_map] at hi
      cases e1
      have e2' : x2 = V.bl (dryAt G.dry i) := by
        dsimp only at e2
        rw [List.getElem?_map, List.getElem?_eq_getElem hi] at e2
        rw [← Option.some.inj e2, dryAt, List.getElem?_eq_getElem hi]
        rfl
      subst e2'
      have s5 : Same H (upd H1 tp (.tup [.int (i : Nat), .bl (dryAt G.dry i)])) := s4.trans (same_new hTp)
      have htp : (upd H1 tp (.tup [.int (i : Nat), .bl (dryAt G.dry i)])) tp = some (.tup [.int (i : Nat), .bl (dryAt G.dry i)]) := upd_same
      have hQ5 := (same_new (o := .tup [.int (i : Nat), .bl (dryAt G.dry i)]) hTp) _ _ hQ
      have hE5 : Each (PairAt (upd H1 tp (.tup [.int (i : Nat), .bl (dryAt G.dry i)]))) as (runsTo G.dry i) := hEa.imp fun a x h => (same_new (o := .tup [.int (i : Nat), .bl (dryAt G.dry i)]) hTp) _ _ h
      generalize upd H1 tp (.tup [.int (i : Nat), .bl (dryAt G.dry i)]) = H5 at *
      have hob5 := s5 _ _ hob
      have hdl5 := s5 _ _ hdl
      refine ⟨tp, _, rfl, SqT.of htp, rfl, ?_⟩
      walk_at "rd"
      simp only [hob5, TG.cl, TG.n6, V.ref.injEq, V.int.injEq, V.str.injEq, List.cons.injEq, Option.some.injEq, HO.ins.injEq, and_assoc, exists_and_left, exists_eq_left', exists_eq_left, true_and, and_true, upd_same, upd_upd, putF_nil, putF_cons, lookup_put, lookup_nil, if_false, if_true, List.length_cons, List.length_nil, exists_eq', exists_eq, Nat.reduceAdd, Nat.reduceLT, Nat.zero_add, n_period_limit, n_period_names, n_period_rank, n_period_starts, n_period_dry, n_period_requests, n_limit_period, n_limit_names, n_limit_rank, n_limit_starts, n_limit_dry, n_limit_requests, n_names_period, n_names_limit, n_names_rank, n_names_starts, n_names_dry, n_names_requests, n_rank_period, n_rank_limit, n_rank_names, n_rank_starts, n_rank_dry, n_rank_requests, n_starts_period, n_starts_limit, n_starts_names, n_starts_rank, n_starts_dry, n_starts_requests, n_dry_period, n_dry_limit, n_dry_names, n_dry_rank, n_dry_starts, n_dry_requests, n_requests_period, n_requests_limit, n_requests_names, n_requests_rank, n_requests_starts, n_requests_dry]
      have hlen : as.length = (runsTo G.dry i).length := hEa.1
      have app : dryAt G.dry i = true → ¬ (0 < i ∧ dryAt G.dry (i - 1) = true) → ∀ v4 v5 : Option V, tyV K "list" (V.ref q) H5 ∧ 2 ≤ sizeLine ∧ ∀ (p : Addr), H5 p = none → ∃ x, upd H5 p (HO.tup [V.int (i : Nat), V.int (i : Nat)]) q = some (HO.lst x) ∧ x.length < sizeLine ∧
          IRn g q G.dry H (i + 1) [some (V.ref g), some (V.ref q), some (V.int (i : Nat)), some (V.bl (dryAt G.dry i)), v4, v5] (upd (upd H5 p (HO.tup [V.int (i : Nat), V.int (i : Nat)])) q (HO.lst (x ++ [V.ref p]))) := by
        intro h1 h2 v4 v5
        refine ⟨tyV_lst hQ5, by decide +kernel, fun p hp => ?_⟩
        have hpq : p ≠ q := fun e => by rw [e, hQ5] at hp; cases hp
        refine ⟨_, (upd_ne hpq.symm).trans hQ5, line_lt (by rw [List.length_map]; omega), as ++ [p], _, _, _, _, rfl, same_mut (s5.trans (same_new hp)) hq, by rw [upd_same]; simp, ?_, by simp; omega⟩
        rw [runsTo_succ, runStep, if_pos h1, if_neg h2]
        refine Each.snoc (hE5.imp fun a x h => ?_) ?_
        · unfold PairAt at h ⊢
          rw [upd_ne (ne_of h hQ5 (by intro z; cases z)), upd_ne (ne_of_none h hp)]
          exact h
        · unfold PairAt
          rw [upd_ne hpq, upd_same]
      by_cases hd : dryAt G.dry i = true
      · rw [if_pos hd]
        by_cases h0 : 0 < i
        · rw [if_pos (by omega)]
          refine ⟨_, SqL.of hdl5, .bl (dryAt G.dry (i - 1)), ?_, _, rfl, ?_⟩
          · rw [show ((i : Nat) : Int) - 1 = ((i - 1 : Nat) : Int) by omega]
            refine atI_nat ?_
            rw [List.getElem?_map, dryAt, List.getElem?_eq_getElem (by omega : i - 1 < G.dry.length)]
            rfl
          · by_cases hd2 : dryAt G.dry (i - 1) = true
            · rw [if_pos hd2]
              have hne : runsTo G.dry i ≠ [] := by
                have := runsTo_ne hd2
                rw [show i - 1 + 1 = i by omega] at this
                exact this
              have hl0 : 0 < (runsTo G.dry i).length := List.length_pos_iff.mpr hne
              obtain ⟨a, ha, hP⟩ := hE5.get (i := (runsTo G.dry i).length - 1) (by omega)
              have hix : ixN (as.map V.ref).length (-1) = some ((runsTo G.dry i).length - 1) := by
                rw [List.length_map, hlen]
                exact ixN_last hl0
              refine ⟨_, SqL.of hQ5, .ref a, ?_, a, rfl, _, SqT.of hP, rfl, _, _, rfl, _, _, rfl, rfl, by decide +kernel, fun p hp => ?_⟩
              · unfold atI
                rw [hix]
                show (as.map V.ref)[(runsTo G.dry i).length - 1]? = _
                rw [List.getElem?_map, ha]
                rfl
              · have hpq : p ≠ q := fun e => by rw [e, hQ5] at hp; cases hp
                refine ⟨_, (upd_ne hpq.symm).trans hQ5, _, hix, as.set ((runsTo G.dry i).length - 1) p, _, _, _, _, rfl, same_mut (s5.trans (same_new hp)) hq, by rw [upd_same, List.map_set], ?_, by rw [List.length_set]; omega⟩
                have hlast : (runsTo G.dry i).getLast?.getD (0, 0) = (runsTo G.dry i)[(runsTo G.dry i).length - 1] := by
                  rw [List.getLast?_eq_getElem?, List.getElem?_eq_getElem (by omega)]
                  rfl
                rw [runsTo_succ, runStep, if_pos hd, if_pos ⟨h0, hd2⟩, drop_set hne, hlast]
                refine Each.set (hE5.imp fun b x h => ?_) ?_
                · unfold PairAt at h ⊢
                  rw [upd_ne (ne_of h hQ5 (by intro z; cases z)), upd_ne (ne_of_none h hp)]
                  exact h
                · unfold PairAt
                  rw [upd_ne hpq, upd_same]
            · rw [if_neg hd2, if_pos hd]
              exact app hd (fun h => hd2 h.2) _ _
        · rw [if_neg (by omega), if_pos hd]
          exact app hd (fun h => h0 h.1) _ _
      · rw [if_neg hd, if_neg hd]
        refine ⟨as, _, _, _, _, rfl, s5, hQ5, ?_, by omega⟩
        rw [runsTo_succ, runStep, if_neg hd]
        exact hE5
    · rintro σ H4 ⟨as, v2, v3, v4, v5, rfl, s4, hQ, hEa, hla⟩
      rw [List.length_map] at hEa
      exact ⟨_, rfl, k q H4 as hq s4 hQ hEa⟩
end

end Wv
end WvK2_
section WvK3_
set_option Elab.async false
set_option linter.all false
set_option maxRecDepth 100000
set_option maxHeartbeats 4000000
namespace Wv
open PySem L2
open SX (S S_len S_inj)
local macro_rules | `(tactic| walk_at "rd") => `(tactic| (try simp only [tVar, tC, tB, tAnd, tOr, tNot, tAndV, tOrV, tNotV, tIf, tNext, tSeq, tBreak, tCont, tDrop, tRet, tRetN, tIfS, gName, gNil, gCons, gTup, gSub, tAsg, tPar, tAug, tOp, tUn, rI, rI0, rU, rEq, rNe, tTest, tFld, tNil, tCons, tTup, tLst, tCB, tNoPart, tPart, tSl, rIxL, rIxT, rIxS, rSlL, rSlS, tBM0, tBM, rAppend, rExtend, rCat, rRep, rSetL, tM0, tM1, tCall, tMeth, tMake, sFld, sFldAug, rAdd, rSub, ipI, tBM0,
  scal_ss, scal_ii, scal_bb, scal_ns, scal_sn, scal_nn, tyV_str, L2.start, List.map_cons, List.map_nil, List.length_cons, List.length_nil, List.replicate, List.cons_append, List.nil_append, List.append_nil, List.getElem?_cons_zero, List.getElem?_cons_succ, List.set_cons_zero, List.set_cons_succ, Nat.reduceAdd, Nat.reduceSub, Nat.zero_add, Nat.sub_self, Nat.add_one_sub_one,
  Option.some.injEq, exists_eq_left, exists_eq_left', exists_eq', exists_eq, V.int.injEq, V.str.injEq, V.ref.injEq, V.bl.injEq, reduceCtorEq, List.cons.injEq, and_true, true_and, exists_and_left, exists_and_right, and_assoc, decide_true, decide_false, if_true, if_false, ite_true, ite_false, Bool.false_eq_true, Bool.true_eq_false, eq_self_iff_true, cx_K, nox_K, tMkSyn, tMkChk, tYes, bne, ne_eq, not_false_eq_true, not_true_eq_false, Bool.not_true, Bool.not_false, decide_eq_true_eq, Bool.not_eq_true', decide_eq_false_iff_not]))
open PySem.Spec PyProof.Rows
structure GOk (G : WGard) : Prop where
  pd : G.period ≤ 60
  lm : G.limit ≤ 1000000
  nl : G.names.length ≤ 8
  nm : ∀ n ∈ G.names, n.length ≤ 100
  rl : G.rank.length ≤ 50008
  rk : ∀ v ∈ G.rank, v < G.names.length
  sl : G.starts.length ≤ 20
  st : ∀ x ∈ G.starts, x.1 ≤ 1000000 ∧ x.2.1 < G.names.length ∧ x.2.2 ≤ 1000000
  dl : G.dry.length ≤ 60
def nameAt (G : WGard) (v : Nat) : List Nat := G.names.getD v []
def startLine (G : WGard) (x : Tri) : List Nat := lineOf startK [.s (nameAt G x.2.1), .n x.1, .s forK, .n x.2.2]
def pauseLine (r : Nat × Nat) : List Nat := lineOf pauseK [.n r.1, .n r.2]
def lines0 (G : WGard) : List (List Nat) := [lineOf roundK [.n G.period], lineOf openK [.n G.limit], lineOf valvesK (G.names.map .s)]
def lines1 (G : WGard) : List (List Nat) := lines0 G ++ (if G.rank = List.range G.names.length then [] else [lineOf rankK (G.rank.map fun v => .s (nameAt G v))])
def lines2 (G : WGard) : List (List Nat) := lines1 G ++ G.starts.map (startLine G)
def linesOf (G : WGard) : List (List Nat) := lines2 G ++ (runsOf G.dry).map pauseLine
def textOf (G : WGard) : List Nat := TL.joinL [10] (linesOf G)
theorem ints_can : ∀ l : List Nat, PyData.canLayAll0 (l.map fun v => PyData.int (v : Nat)) = true ∧ PyData.depthAll (l.map fun v => PyData.int (v : Nat)) = 0
  | [] => ⟨rfl, rfl⟩
  | v :: l => by
    obtain ⟨h1, h2⟩ := ints_can l
    refine ⟨?_, ?_⟩
    · show (true && PyData.canLayAll0 (l.map fun v => PyData.int (v : Nat))) = true
      rw [h1]
      rfl
    · show max 0 (PyData.depthAll (l.map fun v => PyData.int (v : Nat))) = 0
      rw [h2]
      rfl
theorem ints_shaped (l : List Nat) : SeqAt.shaped (.list (l.map fun v => PyData.int (v : Nat))) = true := by
  obtain ⟨h1, h2⟩ := ints_can l
  unfold SeqAt.shaped
  rw [show PyData.canLay0 (.list (l.map fun v => PyData.int (v : Nat))) = true from h1, show PyData.depth (.list (l.map fun v => PyData.int (v : Nat))) = PyData.depthAll (l.map fun v => PyData.int (v : Nat)) + 1 from rfl, h2]
  rfl
theorem ints_eqv : ∀ l m : List Nat, PyData.eqvAll (l.map fun v => PyData.int (v : Nat)) (m.map fun v => PyData.int (v : Nat)) = decide (l = m)
  | [], [] => rfl
  | [], _ :: _ => rfl
  | _ :: _, [] => rfl
  | a :: l, b :: m => by
    show ((((a : Nat) : Int) == ((b : Nat) : Int)) && PyData.eqvAll (l.map fun v => PyData.int (v : Nat)) (m.map fun v => PyData.int (v : Nat))) = _
    rw [ints_eqv l m, Bool.eq_iff_iff, Bool.and_eq_true, beq_iff_eq, decide_eq_true_eq, decide_eq_true_eq, List.cons.injEq]
    constructor
    · rintro ⟨h1, h2⟩
      exact ⟨by omega, h2⟩
    · rintro ⟨h1, h2⟩
      exact ⟨by omega, h2⟩
theorem dpa_ints {K : PySem.W.Frag} {H : Hp} : ∀ l : List Nat, DpAll K H (l.map fun v => V.int (v : Nat)) (l.map fun v => PyData.int (v : Nat))
  | [] => .nil
  | v :: l => .cons (.int _) (dpa_ints l)
theorem dp_ints {K : PySem.W.Frag} {H : Hp} {a : Addr} {l : List Nat} (h : H a = some (.lst (l.map fun v => V.int (v : Nat)))) : Dp K H (.ref a) (.list (l.map fun v => PyData.int (v : Nat))) := .lst (SqL.of h) (dpa_ints l)
theorem name_get {G : WGard} {v : Nat} (h : v < G.names.length) : (G.names.map fun n => V.str (S n))[v]? = some (.str (S (nameAt G v))) := by
  rw [List.getElem?_map, List.getElem?_eq_getElem h, nameAt, List.getD_eq_getElem?_getD, List.getElem?_eq_getElem h]
  rfl
theorem name_len {G : WGard} (hO : GOk G) {v : Nat} (h : v < G.names.length) : (nameAt G v).length ≤ 100 := by
  rw [nameAt, List.getD_eq_getElem?_getD, List.getElem?_eq_getElem h]
  exact hO.nm _ (List.getElem_mem h)
theorem rgV0 (n : Nat) : rgV 0 ((n : Nat) : Int) = (List.range n).map fun v => V.int (v : Nat) := by
  unfold rgV
  rw [show (((n : Nat) : Int) - 0).toNat = n by omega]
  refine List.map_congr_left fun i _ => ?_
  rw [Int.zero_add]
theorem str_for : ("for" : Str) = S forK := by decide +kernel
theorem runs_to (d : List Bool) : ∀ n, (runsTo d n).length ≤ n ∧ ∀ r ∈ runsTo d n, r.1 ≤ n ∧ r.2 ≤ n
  | 0 => ⟨Nat.le_refl _, fun r h => by simp [runsTo] at h⟩
  | n + 1 => by
    obtain ⟨h1, h2⟩ := runs_to d n
    rw [runsTo_succ]
    refine ⟨Nat.le_trans (runStep_len _ _ _) (by omega), fun r hr => ?_⟩
    have old : ∀ r ∈ runsTo d n, r.1 ≤ n + 1 ∧ r.2 ≤ n + 1 := fun r hr => ⟨Nat.le_succ_of_le (h2 r hr).1, Nat.le_succ_of_le (h2 r hr).2⟩
    unfold runStep at hr
    split at hr
    · split at hr
      · rcases List.mem_append.mp hr with hr | hr
        · exact old r (List.dropLast_subset _ hr)
        · obtain rfl := List.mem_singleton.mp hr
          refine ⟨?_, Nat.le_succ n⟩
          cases z : (runsTo d n).getLast? with
          | none => exact Nat.zero_le _
          | some y => exact (old y (List.mem_of_getLast? z)).1
      · rcases List.mem_append.mp hr with hr | hr
        · exact old r hr
        · obtain rfl := List.mem_singleton.mp hr
          exact ⟨Nat.le_succ n, Nat.le_succ n⟩
    · exact old r hr
theorem runs_len (d : List Bool) : (runsOf d).length ≤ d.length := (runs_to d _).1
theorem runs_le (d : List Bool) : ∀ r ∈ runsOf d, r.1 ≤ d.length ∧ r.2 ≤ d.length := (runs_to d _).2
theorem line_len {kw : List Nat} {ws : List WWord} {n : Nat} (hk : kw.length ≤ 100) (hw : WOk ws) (hn : ws.length ≤ n) : (lineOf kw ws).length ≤ 101 * (n + 1) + 1 := by
  have h1 := joinL_len [32] (kw :: ws.map (·.t))
  have h2 : ((kw :: ws.map (·.t)).map List.length).sum ≤ 100 * (kw :: ws.map (·.t)).length := sum_le fun x hx => by
    rcases List.mem_cons.mp hx with rfl | hx
    · exact hk
    · obtain ⟨y, hy, rfl⟩ := List.mem_map.mp hx
      exact wok_len hw y hy
  rw [show ([32] : List Nat).length = 1 from rfl] at h1
  rw [List.length_cons, List.length_map] at h1 h2
  unfold lineOf
  rw [List.length_append, show ([59] : List Nat).length = 1 from rfl]
  omega
theorem lines_sum {G : WGard} (hO : GOk G) : ((linesOf G).map List.length).sum + (linesOf G).length * ([10] : List Nat).length ≤ 16777216 := by
  have h60 := hO.dl
  have hrn := runs_len G.dry
  have e0 : ((lines0 G).map List.length).sum ≤ 2000 := by
    have a1 := line_len (kw := roundK) (ws := [.n G.period]) (n := 1) (by decide) ⟨by simp, fun x hx => by obtain rfl := List.mem_singleton.mp hx; exact Nat.le_trans hO.pd (by decide)⟩ (by simp)
    have a2 := line_len (kw := openK) (ws := [.n G.limit]) (n := 1) (by decide) ⟨by simp, fun x hx => by obtain rfl := List.mem_singleton.mp hx; exact hO.lm⟩ (by simp)
    have a3 := line_len (kw := valvesK) (ws := G.names.map .s) (n := 8) (by decide) ⟨by rw [List.length_map]; have := hO.nl; omega, fun x hx => by obtain ⟨n, hn, rfl⟩ := List.mem_map.mp hx; exact hO.nm n hn⟩ (by rw [List.length_map]; exact hO.nl)
    unfold lines0
    simp only [List.map_cons, List.map_nil, List.sum_cons, List.sum_nil]
    omega
  have e1 : ((lines1 G).map List.length).sum ≤ 5100000 ∧ (lines1 G).length ≤ 4 := by
    unfold lines1
    rw [List.map_append, List.sum_append, List.length_append]
    split
    · exact ⟨by simp; omega, by simp [lines0]⟩
    · have a4 := line_len (kw := rankK) (ws := G.rank.map fun v => .s (nameAt G v)) (n := 50008) (by decide) ⟨by rw [List.length_map]; have := hO.rl; omega, fun x hx => by obtain ⟨v, hv, rfl⟩ := List.mem_map.mp hx; exact name_len hO (hO.rk v hv)⟩ (by rw [List.length_map]; exact hO.rl)
      refine ⟨?_, by simp [lines0]⟩
      simp only [List.map_cons, List.map_nil, List.sum_cons, List.sum_nil]
      omega
  have e2 : ((G.starts.map (startLine G)).map List.length).sum ≤ 1000 * (G.starts.map (startLine G)).length := sum_le fun l hl => by
    obtain ⟨x, hx, rfl⟩ := List.mem_map.mp hl
    have hst := hO.st x hx
    have := line_len (kw := startK) (ws := [.s (nameAt G x.2.1), .n x.1, .s forK, .n x.2.2]) (n := 4) (by decide) ⟨by simp, fun y hy => by
      simp only [List.mem_cons, List.mem_nil_iff, or_false] at hy
      rcases hy with rfl | rfl | rfl | rfl
      · exact name_len hO hst.2.1
      · exact hst.1
      · show forK.length ≤ 100
        decide
      · exact hst.2.2⟩ (by simp)
    unfold startLine
    omega
  have e3 : (((runsOf G.dry).map pauseLine).map List.length).sum ≤ 1000 * ((runsOf G.dry).map pauseLine).length := sum_le fun l hl => by
    obtain ⟨x, hx, rfl⟩ := List.mem_map.mp hl
    have hrm := runs_le G.dry x hx
    have := line_len (kw := pauseK) (ws := [.n x.1, .n x.2]) (n := 2) (by decide) ⟨by simp, fun y hy => by
      simp only [List.mem_cons, List.mem_nil_iff, or_false] at hy
      rcases hy with rfl | rfl
      · show _ ≤ 1000000
        omega
      · show _ ≤ 1000000
        omega⟩ (by simp)
    unfold pauseLine
    omega
  have h20 := hO.sl
  rw [List.length_map] at e2 e3
  unfold linesOf lines2
  rw [List.map_append, List.map_append, List.sum_append, List.sum_append, List.length_append, List.length_append, List.length_map, List.length_map]
  show _ + _ * 1 ≤ _
  omega
section
variable {P : Program} {w : World} {K : PySem.W.Frag} {mg : Str → Option Value} {base : Heap}
theorem sc_plan_text : FnScope ["garden", "names", "lines", "valve", "tick", "water", "run"] ["garden"] (defScope s_plan_text) := ⟨rfl, rfl, rfl, by decide +kernel, rfl, by decide +kernel, by decide +kernel⟩
def IPs (g nl p : Addr) (G : WGard) (H : Hp) (i : Nat) (σ : L2.St) (H' : Hp) : Prop := ∃ v3 v4 v5 v6 : Option V, σ = [some (.ref g), some (.ref nl), some (.ref p), v3, v4, v5, v6] ∧ Same H H' ∧ H' p = some (.lst ((lines1 G ++ (G.starts.take i).map (startLine G)).map fun l => V.str (S l)))
def IPr (g nl p : Addr) (G : WGard) (H : Hp) (i : Nat) (σ : L2.St) (H' : Hp) : Prop := ∃ v3 v4 v5 v6 : Option V, σ = [some (.ref g), some (.ref nl), some (.ref p), v3, v4, v5, v6] ∧ Same1 p H H' ∧ H' p = some (.lst ((lines2 G ++ ((runsOf G.dry).take i).map pauseLine).map fun l => V.str (S l)))
theorem plan_tail {Q : VK} {H : Hp} {CG g nl p sl dx : Addr} {v1 v2 v3 v4 v5 v6 : V} {sas : List Addr} {G : WGard} (T : TopF w K mg) (TG : CGarden K CG) (hO : GOk G) (hp : H p = none) (hob : H g = some (.ins CG dx [("period", v1), ("limit", v2), ("names", v3), ("rank", v4), ("starts", .ref sl), ("dry", v5), ("requests", v6)]))
    (hnl : H nl = some (.lst (G.names.map fun n => V.str (S n)))) (hsl : H sl = some (.lst (sas.map V.ref))) (hE : Each (TriAt H) sas G.starts) (hG : GardAt CG H g G) (k : ∀ H', Same H H' → Q (.str (S (textOf G))) H') (H6 : Hp) (h6p : H6 p = some (.lst ((lines1 G).map fun l => V.str (S l)))) (s6 : Same H H6) :
        tFor (iList K (tFld K (tVar 0) "starts")) (gTup K 3 (gCons (gName 4) (gCons (gName 3) (gCons (gName 5) gNil))))
          (tDrop (tBM K "list" rAppend (tVar 2) (tCons (tCall sp__line [] E0 (tCons (tC (.str "start")) (tCons (tLst (tCons (tOp (rIxL K) (tVar 1) (tVar 3)) (tCons (tVar 4) (tCons (tC (.str "for")) (tCons (tVar 5) tNil))))) tNil))) tNil)))
          { nx := tSeq (tFor (iList K (tCall (sp_dry_runs CG) [] E0 (tCons (tVar 0) tNil))) (gName 6) (tDrop (tBM K "list" rAppend (tVar 2) (tCons (tCall sp__line [] E0 (tCons (tC (.str "pause")) (tCons (tVar 6) tNil))) tNil))))
              (tRet (tM1 (fun x xs H Q => ∃ a, x = V.str a ∧ ∃ x, xs = [V.ref x] ∧ ∃ x_1, (SqL K H x (List.map V.str x_1) ∨ SqT K H x (List.map V.str x_1)) ∧ (List.map (fun x => x.length) x_1).sum + x_1.length * a.length ≤ 16777216 ∧ Q (V.str (Txt.join a x_1)) H) (tC (.str "\n")) (tVar 2))) { nx := fun x H' => Q .non H', rt := Q }, rt := Q }
          [some (.ref g), some (.ref nl), some (.ref p), none, none, none, none] H6 := by
  refine ⟨_, rfl, g, CG, dx, _, _, rfl, s6 _ _ hob, TG.cl, TG.n5, by simp only [V.ref.injEq, V.int.injEq, V.str.injEq, List.cons.injEq, Option.some.injEq, HO.ins.injEq, and_assoc, exists_and_left, exists_eq_left', exists_eq_left, true_and, and_true, upd_same, upd_upd, putF_nil, putF_cons, lookup_put, lookup_nil, if_false, if_true, List.length_cons, List.length_nil, exists_eq', exists_eq, Nat.reduceAdd, Nat.reduceLT, Nat.zero_add, n_period_limit, n_period_names, n_period_rank, n_period_starts, n_period_dry, n_period_requests, n_limit_period, n_limit_names, n_limit_rank, n_limit_starts, n_limit_dry, n_limit_requests, n_names_period, n_names_limit, n_names_rank, n_names_starts, n_names_dry, n_names_requests, n_rank_period, n_rank_limit, n_rank_names, n_rank_starts, n_rank_dry, n_rank_requests, n_starts_period, n_starts_limit, n_starts_names, n_starts_rank, n_starts_dry, n_starts_requests, n_dry_period, n_dry_limit, n_dry_names, n_dry_rank, n_dry_starts, n_dry_requests, n_requests_period, n_requests_limit, n_requests_names, n_requests_rank, n_requests_starts, n_requests_dry], sl, rfl, ⟨_, SqL.of (s6 _ _ hsl)⟩, ?_⟩
  refine for_it (walk_list (xs := sas.map V.ref)) (IPs g nl p G H) ⟨none, none, none, none, rfl, s6, by simpa using h6p⟩ (fun i σ H' _ h => ?_) ?_ ?_
  · obtain ⟨_, _, _, _, _, s4, _⟩ := h
    exact SqL.of (s4 _ _ hsl)
  · rintro i x σ H1 H2 hi ⟨v3, v4, v5, v6, rfl, s7, h7p⟩ ⟨rfl, ex⟩
    rw [List.length_map, hE.1] at hi
    obtain ⟨a, ha, hTa⟩ := hE.get hi
    have ex' : x = V.ref a := by
      rw [List.getElem?_map, ha] at ex
      exact (Option.some.inj ex).symm
    subst ex'
    have hst := hO.st _ (List.getElem_mem hi)
    have hil : i < 20 := Nat.lt_of_lt_of_le hi hO.sl
    refine ⟨a, _, rfl, SqT.of (s7 _ _ hTa), rfl, ?_⟩
    walk_at "rd"
    simp only [vTri]
    walk_at "rd"
    have hl1 : (lines1 G).length ≤ 4 := by
      unfold lines1
      split <;> simp [lines0]
    refine ⟨tyV_lst h7p, _, SqL.of (s7 _ _ hnl), _, atI_nat (name_get hst.2.1), by decide +kernel, fun q hq => ?_⟩
    refine ⟨startK, q, [.s (nameAt G G.starts[i].2.1), .n G.starts[i].1, .s forK, .n G.starts[i].2.2], by rw [str_start], .inl (by rw [upd_same, str_for]; rfl), by decide, ⟨by simp, fun x hx => ?_⟩, fun H3 s3 => ?_⟩
    · simp only [List.mem_cons, List.mem_nil_iff, or_false] at hx
      rcases hx with rfl | rfl | rfl | rfl
      · exact name_len hO hst.2.1
      · exact hst.1
      · show forK.length ≤ 100
        decide
      · exact hst.2.2
    · refine ⟨_, s3 _ _ ((same_new hq) _ _ h7p), line_lt (by rw [List.length_map, List.length_append, List.length_map, List.length_take]; omega), _, _, _, _, rfl, same_mut ((s7.trans (same_new hq)).trans s3) hp, ?_⟩
      rw [upd_same, List.take_add_one, List.getElem?_eq_getElem hi]
      simp only [List.map_append, List.append_assoc, Option.toList_some, List.map_cons, List.map_nil]
      rfl
  · rintro σ H7 ⟨v3, v4, v5, v6, rfl, s7, h7p⟩
    rw [List.length_map, hE.1, List.take_length] at h7p
    have h7p : H7 p = some (.lst ((lines2 G).map fun l => V.str (S l))) := h7p
    have hl2 : (lines2 G).length ≤ 24 := by
      unfold lines2
      rw [List.length_append, List.length_map]
      have := hO.sl
      have hl1 : (lines1 G).length ≤ 4 := by
        unfold lines1
        split <;> simp [lines0]
      omega
    refine ⟨_, rfl, g, G, rfl, gard_mono hG s7, hO.dl, fun q H8 as hq s8 h8 hE8 => ⟨q, rfl, ⟨_, SqL.of h8⟩, ?_⟩⟩
    have hrn := runs_len G.dry
    have h60 := hO.dl
    have hqp : q ≠ p := fun e => by rw [e, h7p] at hq; cases hq
    refine for_it (walk_list (xs := as.map V.ref)) (IPr g nl p G H8) ⟨_, _, _, _, rfl, Same1.refl H8, by simpa using s8 _ _ h7p⟩ (fun i σ H' _ h => ?_) ?_ ?_
    · obtain ⟨_, _, _, _, _, s9, _⟩ := h
      exact SqL.of (s9 _ _ hqp h8)
    · rintro i x σ H1 H2 hi ⟨v3, v4, v5, v6, rfl, s9, h9p⟩ ⟨rfl, ex⟩
      rw [List.length_map, hE8.1] at hi
      obtain ⟨a, ha, hPa⟩ := hE8.get hi
      have ex' : x = V.ref a := by
        rw [List.getElem?_map, ha] at ex
        exact (Option.some.inj ex).symm
      subst ex'
      have hap : a ≠ p := ne_of hPa (s8 _ _ h7p) (by intro z; cases z)
      have hPa2 := s9 _ _ hap hPa
      have hrm := runs_le G.dry _ (List.getElem_mem hi)
      walk_at "rd"
      refine ⟨tyV_lst h9p, ?_⟩
      refine ⟨pauseK, a, [.n (runsOf G.dry)[i].1, .n (runsOf G.dry)[i].2], by rw [str_pause], .inr hPa2, by decide, ⟨by simp, fun x hx => ?_⟩, fun H3 s3 => ?_⟩
      · simp only [List.mem_cons, List.mem_nil_iff, or_false] at hx
        rcases hx with rfl | rfl
        · show _ ≤ 1000000
          omega
        · show _ ≤ 1000000
          omega
      · refine ⟨_, s3 _ _ h9p, line_lt (by rw [List.length_map, List.length_append, List.length_map, List.length_take]; omega), _, _, _, _, rfl, (s9.trans (Same1.of s3)).upd, ?_⟩
        rw [upd_same, List.take_add_one, List.getElem?_eq_getElem hi]
        simp only [List.map_append, List.append_assoc, Option.toList_some, List.map_cons, List.map_nil]
        rfl
    · rintro σ H9 ⟨v3, v4, v5, v6, rfl, s9, h9p⟩
      rw [List.length_map, hE8.1, List.take_length] at h9p
      have h9p : H9 p = some (.lst ((linesOf G).map fun l => V.str (S l))) := h9p
      have e9 : ((linesOf G).map fun l => V.str (S l)) = ((linesOf G).map S).map V.str := by rw [List.map_map]; rfl
      rw [e9] at h9p
      walk_at "rd"
      refine ⟨(linesOf G).map S, .inl (SqL.of h9p), ?_, ?_⟩
      · rw [List.map_map, List.length_map, show (List.map ((fun x => Str.length x) ∘ S) (linesOf G)) = (linesOf G).map List.length from List.map_congr_left fun x _ => S_len .., str_lf, S_len]
        exact lines_sum hO
      · rw [str_lf, join_S]
        exact k H9 (Same1.same (s7.trans s8) hp s9)
def sp_plan_text (CG : Addr) : Sp := fun vs H Q _ => ∃ (g : Addr) (G : WGard), vs = [.ref g] ∧ GardAt CG H g G ∧ GOk G ∧ ∀ H', Same H H' → Q (.str (S (textOf G))) H'
theorem ok_plan_text {f CG : Addr} {fd : FuncData} (F : Fun K "plan_text" "plan_text" s_plan_text f fd) (T : TopF w K mg) (TG : CGarden K CG)
    (D__line : DF P w K mg base CX0 1 "_line" ["keyword", "words"] sp__line) (D_dry_runs : DF P w K mg base CX0 1 "dry_runs" ["garden"] (sp_dry_runs CG)) : FnOk P w K mg base CX0 2 f fd ["garden"] (sp_plan_text CG) := by
  refine F.ok sc_plan_text (fun vs H Q E h => ?_) (fun cdv A outer s H vs Q E hr h => ?_)
  · obtain ⟨g, G, rfl, _⟩ := h
    rfl
  · obtain ⟨g, G, rfl, hG, hO, k⟩ := h
    refine ⟨_, (pss_cons (ps_set (i := 1) sc_plan_text.nd rfl (Or.inr rfl) (pe_fld (pv 0) rfl))
      (pss_cons (ps_set (i := 2) sc_plan_text.nd rfl (Or.inl rfl) (pe_lst (pa_cons (pe_call D__line.G (hr.mono (by decide)) rfl D__line.mg D__line.kp D__line.b .nil pass0 (pa_cons pe_str (pa_cons (pe_lst (pa_cons (pe_fld (pv 0) rfl) pa_nil)) pa_nil))) (pa_cons (pe_call D__line.G (hr.mono (by decide)) rfl D__line.mg D__line.kp D__line.b .nil pass0 (pa_cons pe_str (pa_cons (pe_lst (pa_cons (pe_fld (pv 0) rfl) pa_nil)) pa_nil))) (pa_cons (pe_call D__line.G (hr.mono (by decide)) rfl D__line.mg D__line.kp D__line.b .nil pass0 (pa_cons pe_str (pa_cons (pv 1) pa_nil))) pa_nil)))))
      (pss_cons (ps_if (pt_cmpR (op_neD hr.units) (pe_fld (pv 0) rfl) (pe_listRg rfl (by rfl) T.z_list (prg_1 (by rfl) T.z_range (pe_callB call_len_seq (by rfl) T.z_len (by decide +kernel) (pa_cons (pv 1) pa_nil)))) (nomark _)) (pss_one (ps_expr (pe_bm PySem.F.plainAttrs_list PySem.F.slot_list_append PySem.F.type_list_append mt_append (pv 2) (pa_cons (pe_call D__line.G (hr.mono (by decide)) rfl D__line.mg D__line.kp D__line.b .nil pass0 (pa_cons pe_str (pa_cons (pe_lc (own := [("valve", 3)]) (g := gName 3) (tt := tYes) (te := (tOp (rIxL K) (tVar 1) (tVar 3))) rfl sc_plan_text.nd (pi_list (pe_fld (pv 0) rfl)) (blkOk_by (N := ["garden", "names", "lines", "valve", "tick", "water", "run"]) (sc := defScope s_plan_text) (by decide +kernel)) (fun _ _ _ _ _ => (pg_name (i := 3) sc_plan_text.nd rfl (Or.inl rfl))) (fun _ _ _ _ _ => pts_nil) (fun _ _ _ _ _ => (pe_ix ix_list (pv 1) (pv 3) (fun _ _ => rfl)))) pa_nil))) pa_nil)))) pss_nil)
      (pss_cons (ps_for PassesOwn.never rfl (pi_list (pe_fld (pv 0) rfl)) (pg_tup (by rfl) (pgs_cons (pg_name (i := 4) sc_plan_text.nd rfl (Or.inl rfl)) (pgs_cons (pg_name (i := 3) sc_plan_text.nd rfl (Or.inl rfl)) (pgs_cons (pg_name (i := 5) sc_plan_text.nd rfl (Or.inl rfl)) pgs_nil)))) (pss_one (ps_expr (pe_bm PySem.F.plainAttrs_list PySem.F.slot_list_append PySem.F.type_list_append mt_append (pv 2) (pa_cons (pe_call D__line.G (hr.mono (by decide)) rfl D__line.mg D__line.kp D__line.b .nil pass0 (pa_cons pe_str (pa_cons (pe_lst (pa_cons (pe_ix ix_list (pv 1) (pv 3) (fun _ _ => rfl)) (pa_cons (pv 4) (pa_cons pe_str (pa_cons (pv 5) pa_nil))))) pa_nil))) pa_nil)))))
      (pss_cons (ps_for PassesOwn.never rfl (pi_list (pe_call D_dry_runs.G (hr.mono (by decide)) rfl D_dry_runs.mg D_dry_runs.kp D_dry_runs.b .nil pass0 (pa_cons (pv 0) pa_nil))) (pg_name (i := 6) sc_plan_text.nd rfl (Or.inl rfl)) (pss_one (ps_expr (pe_bm PySem.F.plainAttrs_list PySem.F.slot_list_append PySem.F.type_list_append mt_append (pv 2) (pa_cons (pe_call D__line.G (hr.mono (by decide)) rfl D__line.mg D__line.kp D__line.b .nil pass0 (pa_cons pe_str (pa_cons (pv 6) pa_nil))) pa_nil)))))
      (pss_one (ps_ret (pe_join pe_str (pv 2))))))))), ?_⟩
    obtain ⟨dx, nl, rl, sl, dl, ql, sas, qas, hob, hnl, hrl, hsl, hE, hdl, hR⟩ := id hG.ex
    walk_at "rd"
    simp only [hob, TG.cl, TG.n1, TG.n2, TG.n3, V.ref.injEq, V.int.injEq, V.str.injEq, List.cons.injEq, Option.some.injEq, HO.ins.injEq, and_assoc, exists_and_left, exists_eq_left', exists_eq_left, true_and, and_true, upd_same, upd_upd, putF_nil, putF_cons, lookup_put, lookup_nil, if_false, if_true, List.length_cons, List.length_nil, exists_eq', exists_eq, Nat.reduceAdd, Nat.reduceLT, Nat.zero_add, n_period_limit, n_period_names, n_period_rank, n_period_starts, n_period_dry, n_period_requests, n_limit_period, n_limit_names, n_limit_rank, n_limit_starts, n_limit_dry, n_limit_requests, n_names_period, n_names_limit, n_names_rank, n_names_starts, n_names_dry, n_names_requests, n_rank_period, n_rank_limit, n_rank_names, n_rank_starts, n_rank_dry, n_rank_requests, n_starts_period, n_starts_limit, n_starts_names, n_starts_rank, n_starts_dry, n_starts_requests, n_dry_period, n_dry_limit, n_dry_names, n_dry_rank, n_dry_starts, n_dry_requests, n_requests_period, n_requests_limit, n_requests_names, n_requests_rank, n_requests_starts, n_requests_dry]
    refine ⟨by decide +kernel, fun p1 hp1 => ?_⟩
    refine ⟨roundK, p1, [.n G.period], by rw [str_round], .inl upd_same, by decide, ⟨by simp, fun x hx => by obtain rfl := List.mem_singleton.mp hx; exact Nat.le_trans hO.pd (by decide)⟩, fun H1 s1 => ?_⟩
    have s1 : Same H H1 := (same_new hp1).trans s1
    refine ⟨CG, dx, _, s1 _ _ hob, TG.cl, TG.n2, .int (G.limit : Nat), by simp only [V.ref.injEq, V.int.injEq, V.str.injEq, List.cons.injEq, Option.some.injEq, HO.ins.injEq, and_assoc, exists_and_left, exists_eq_left', exists_eq_left, true_and, and_true, upd_same, upd_upd, putF_nil, putF_cons, lookup_put, lookup_nil, if_false, if_true, List.length_cons, List.length_nil, exists_eq', exists_eq, Nat.reduceAdd, Nat.reduceLT, Nat.zero_add, n_period_limit, n_period_names, n_period_rank, n_period_starts, n_period_dry, n_period_requests, n_limit_period, n_limit_names, n_limit_rank, n_limit_starts, n_limit_dry, n_limit_requests, n_names_period, n_names_limit, n_names_rank, n_names_starts, n_names_dry, n_names_requests, n_rank_period, n_rank_limit, n_rank_names, n_rank_starts, n_rank_dry, n_rank_requests, n_starts_period, n_starts_limit, n_starts_names, n_starts_rank, n_starts_dry, n_starts_requests, n_dry_period, n_dry_limit, n_dry_names, n_dry_rank, n_dry_starts, n_dry_requests, n_requests_period, n_requests_limit, n_requests_names, n_requests_rank, n_requests_starts, n_requests_dry], by decide +kernel, fun p2 hp2 => ?_⟩
    refine ⟨openK, p2, [.n G.limit], by rw [str_open], .inl upd_same, by decide, ⟨by simp, fun x hx => by obtain rfl := List.mem_singleton.mp hx; exact hO.lm⟩, fun H2 s2 => ?_⟩
    have s2 : Same H H2 := (s1.trans (same_new hp2)).trans s2
    refine ⟨valvesK, nl, G.names.map .s, by rw [str_valves], .inl ?_, by decide, ⟨by rw [List.length_map]; have := hO.nl; omega, fun x hx => ?_⟩, fun H3 s3 => ?_⟩
    · rw [List.map_map]
      exact s2 _ _ hnl
    · obtain ⟨n, hn, rfl⟩ := List.mem_map.mp hx
      exact hO.nm n hn
    have s3 : Same H H3 := s2.trans s3
    refine ⟨by decide +kernel, fun p hp3 => ?_⟩
    have hp : H p = none := s3.free hp3
    have s4 : Same H (upd H3 p (.lst [.str (S (lineOf roundK [.n G.period])), .str (S (lineOf openK [.n G.limit])), .str (S (lineOf valvesK (G.names.map .s)))])) := s3.trans (same_new hp3)
    have h4p : (upd H3 p (.lst [.str (S (lineOf roundK [.n G.period])), .str (S (lineOf openK [.n G.limit])), .str (S (lineOf valvesK (G.names.map .s)))])) p = some (.lst ((lines0 G).map fun l => V.str (S l))) := upd_same
    generalize upd H3 p (.lst [.str (S (lineOf roundK [.n G.period])), .str (S (lineOf openK [.n G.limit])), .str (S (lineOf valvesK (G.names.map .s)))]) = H4 at *
    refine ⟨CG, dx, _, s4 _ _ hob, TG.cl, TG.n4, .ref rl, by simp only [V.ref.injEq, V.int.injEq, V.str.injEq, List.cons.injEq, Option.some.injEq, HO.ins.injEq, and_assoc, exists_and_left, exists_eq_left', exists_eq_left, true_and, and_true, upd_same, upd_upd, putF_nil, putF_cons, lookup_put, lookup_nil, if_false, if_true, List.length_cons, List.length_nil, exists_eq', exists_eq, Nat.reduceAdd, Nat.reduceLT, Nat.zero_add, n_period_limit, n_period_names, n_period_rank, n_period_starts, n_period_dry, n_period_requests, n_limit_period, n_limit_names, n_limit_rank, n_limit_starts, n_limit_dry, n_limit_requests, n_names_period, n_names_limit, n_names_rank, n_names_starts, n_names_dry, n_names_requests, n_rank_period, n_rank_limit, n_rank_names, n_rank_starts, n_rank_dry, n_rank_requests, n_starts_period, n_starts_limit, n_starts_names, n_starts_rank, n_starts_dry, n_starts_requests, n_dry_period, n_dry_limit, n_dry_names, n_dry_rank, n_dry_starts, n_dry_requests, n_requests_period, n_requests_limit, n_requests_names, n_requests_rank, n_requests_starts, n_requests_dry], ?_⟩
    refine ⟨_, rfl, nl, rfl, _, .inl (SqL.of (s4 _ _ hnl)), _, rfl, RgOk.of_le (by decide) (by rw [List.length_map]; have := hO.nl; omega) (by decide) (by omega), fun q hq => ?_⟩
    rw [List.length_map, rgV0]
    have s5 : Same H4 (upd H4 q (.lst ((List.range G.names.length).map fun v => V.int (v : Nat)))) := same_new hq
    have hq5 : (upd H4 q (.lst ((List.range G.names.length).map fun v => V.int (v : Nat)))) q = some (.lst ((List.range G.names.length).map fun v => V.int (v : Nat))) := upd_same
    have h5p := s5 _ _ h4p
    have s5' := s4.trans s5
    generalize upd H4 q (.lst ((List.range G.names.length).map fun v => V.int (v : Nat))) = H5 at *
    refine ⟨_, _, dp_ints (s5' _ _ hrl), dp_ints hq5, ints_shaped _, ints_shaped _, _, rfl, ?_⟩
    rw [show PyData.eqv (.list (G.rank.map fun v => PyData.int (v : Nat))) (.list ((List.range G.names.length).map fun v => PyData.int (v : Nat))) = decide (G.rank = List.range G.names.length) from ints_eqv _ _]
    have tail : ∀ H6 : Hp, H6 p = some (.lst ((lines1 G).map fun l => V.str (S l))) → Same H H6 →
        tFor (iList K (tFld K (tVar 0) "starts")) (gTup K 3 (gCons (gName 4) (gCons (gName 3) (gCons (gName 5) gNil))))
          (tDrop (tBM K "list" rAppend (tVar 2) (tCons (tCall sp__line [] E0 (tCons (tC (.str "start")) (tCons (tLst (tCons (tOp (rIxL K) (tVar 1) (tVar 3)) (tCons (tVar 4) (tCons (tC (.str "for")) (tCons (tVar 5) tNil))))) tNil))) tNil)))
          { nx := tSeq (tFor (iList K (tCall (sp_dry_runs CG) [] E0 (tCons (tVar 0) tNil))) (gName 6) (tDrop (tBM K "list" rAppend (tVar 2) (tCons (tCall sp__line [] E0 (tCons (tC (.str "pause")) (tCons (tVar 6) tNil))) tNil))))
              (tRet (tM1 (fun x xs H Q => ∃ a, x = V.str a ∧ ∃ x, xs = [V.ref x] ∧ ∃ x_1, (SqL K H x (List.map V.str x_1) ∨ SqT K H x (List.map V.str x_1)) ∧ (List.map (fun x => x.length) x_1).sum + x_1.length * a.length ≤ 16777216 ∧ Q (V.str (Txt.join a x_1)) H) (tC (.str "\n")) (tVar 2))) { nx := fun x H' => Q .non H', rt := Q }, rt := Q }
          [some (.ref g), some (.ref nl), some (.ref p), none, none, none, none] H6 := by
      intro H6 h6p s6
      exact plan_tail T TG hO hp hob hnl hsl hE hG k H6 h6p s6
    by_cases hrk : G.rank = List.range G.names.length
    · have hl1 : lines1 G = lines0 G := by rw [lines1, if_pos hrk, List.append_nil]
      rw [if_neg (by rw [decide_eq_true hrk]; decide)]
      rw [← hl1] at h5p
      clear hl1 hrk hq hq5 s5 h4p s4 hp3
      revert h5p s5'
      generalize H5 = H6
      intro h5p s5'
      exact tail H6 h5p s5'
    · have hl1 : lines1 G = lines0 G ++ [lineOf rankK (G.rank.map fun v => .s (nameAt G v))] := by rw [lines1, if_neg hrk]
      rw [if_pos (by rw [decide_eq_false hrk]; decide)]
      refine ⟨tyV_lst h5p, _, rfl, g, CG, dx, _, _, rfl, s5' _ _ hob, TG.cl, TG.n4, by simp only [V.ref.injEq, V.int.injEq, V.str.injEq, List.cons.injEq, Option.some.injEq, HO.ins.injEq, and_assoc, exists_and_left, exists_eq_left', exists_eq_left, true_and, and_true, upd_same, upd_upd, putF_nil, putF_cons, lookup_put, lookup_nil, if_false, if_true, List.length_cons, List.length_nil, exists_eq', exists_eq, Nat.reduceAdd, Nat.reduceLT, Nat.zero_add, n_period_limit, n_period_names, n_period_rank, n_period_starts, n_period_dry, n_period_requests, n_limit_period, n_limit_names, n_limit_rank, n_limit_starts, n_limit_dry, n_limit_requests, n_names_period, n_names_limit, n_names_rank, n_names_starts, n_names_dry, n_names_requests, n_rank_period, n_rank_limit, n_rank_names, n_rank_starts, n_rank_dry, n_rank_requests, n_starts_period, n_starts_limit, n_starts_names, n_starts_rank, n_starts_dry, n_starts_requests, n_dry_period, n_dry_limit, n_dry_names, n_dry_rank, n_dry_starts, n_dry_requests, n_requests_period, n_requests_limit, n_requests_names, n_requests_rank, n_requests_starts, n_requests_dry], rl, rfl, ⟨_, SqL.of (s5' _ _ hrl)⟩, fun D hD => ?_⟩
      refine lc_map (ys := (G.rank.map (nameAt G)).map fun n => V.str (S n)) hD (s5' _ _ hrl) (by rw [List.length_map, List.length_map, List.length_map]) (by rw [List.length_map]; have := hO.rl; omega) (fun i x y H' k hx hy s6 hk => ?_) ?_
      · rw [List.getElem?_map] at hx
        obtain ⟨v, hv, rfl⟩ := Option.map_eq_some_iff.mp hx
        rw [List.getElem?_map, List.getElem?_map, hv] at hy
        obtain rfl := Option.some.inj hy
        exact ⟨_, rfl, _, rfl, nl, _, _, _, rfl, rfl, SqL.of (s6 _ _ (s5' _ _ hnl)), atI_nat (name_get (hO.rk v (List.mem_of_getElem? hv))), hk⟩
      · have s6 : Same H5 (upd H5 D (.lst ((G.rank.map (nameAt G)).map fun n => V.str (S n)))) := same_new hD
        have h6D : (upd H5 D (.lst ((G.rank.map (nameAt G)).map fun n => V.str (S n)))) D = some (.lst ((G.rank.map (nameAt G)).map fun n => V.str (S n))) := upd_same
        generalize upd H5 D (.lst ((G.rank.map (nameAt G)).map fun n => V.str (S n))) = H6 at *
        refine ⟨rankK, D, G.rank.map fun v => .s (nameAt G v), by rw [str_rank], .inl ?_, by decide, ⟨by rw [List.length_map]; have := hO.rl; omega, fun x hx => ?_⟩, fun H7 s7 => ?_⟩
        · rw [h6D, List.map_map, List.map_map]
          rfl
        · obtain ⟨v, hv, rfl⟩ := List.mem_map.mp hx
          exact name_len hO (hO.rk v hv)
        · have s8 := (s5'.trans s6).trans s7
          have h7p := s7 _ _ (s6 _ _ h5p)
          refine ⟨_, h7p, line_lt (by rw [List.length_map]; show (3 : Nat) ≤ 100000; decide), ?_⟩
          refine tail _ ?_ (same_mut s8 hp)
          rw [upd_same, hl1, List.map_append]
          rfl
end

end Wv
end WvK3_
section WvK4_
set_option Elab.async false
set_option linter.all false
set_option maxRecDepth 100000
set_option maxHeartbeats 4000000
namespace Wv
open PySem L2
open SX (S S_len S_inj)
local macro_rules | `(tactic| walk_at "rd") => `(tactic| (try simp only [tVar, tC, tB, tAnd, tOr, tNot, tAndV, tOrV, tNotV, tIf, tNext, tSeq, tBreak, tCont, tDrop, tRet, tRetN, tIfS, gName, gNil, gCons, gTup, gSub, tAsg, tPar, tAug, tOp, tUn, rI, rI0, rU, rEq, rNe, tTest, tFld, tNil, tCons, tTup, tLst, tCB, tNoPart, tPart, tSl, rIxL, rIxT, rIxS, rSlL, rSlS, tBM0, tBM, rAppend, rExtend, rCat, rRep, rSetL, tM0, tM1, tCall, tMeth, tMake, sFld, sFldAug, rAdd, rSub, ipI, tBM0,
  scal_ss, scal_ii, scal_bb, scal_ns, scal_sn, scal_nn, tyV_str, L2.start, List.map_cons, List.map_nil, List.length_cons, List.length_nil, List.replicate, List.cons_append, List.nil_append, List.append_nil, List.getElem?_cons_zero, List.getElem?_cons_succ, List.set_cons_zero, List.set_cons_succ, Nat.reduceAdd, Nat.reduceSub, Nat.zero_add, Nat.sub_self, Nat.add_one_sub_one,
  Option.some.injEq, exists_eq_left, exists_eq_left', exists_eq', exists_eq, V.int.injEq, V.str.injEq, V.ref.injEq, V.bl.injEq, reduceCtorEq, List.cons.injEq, and_true, true_and, exists_and_left, exists_and_right, and_assoc, decide_true, decide_false, if_true, if_false, ite_true, ite_false, Bool.false_eq_true, Bool.true_eq_false, eq_self_iff_true, cx_K, nox_K, tMkSyn, tMkChk, tYes, bne, ne_eq, not_false_eq_true, not_true_eq_false, Bool.not_true, Bool.not_false, decide_eq_true_eq, Bool.not_eq_true', decide_eq_false_iff_not]))
open LamX
theorem rankL_lt {ns : List (List Nat)} {pd : Nat} : ∀ (ss : List WStm) (r : List Nat), (∀ s ∈ ss, RestOk ns pd s) → (∀ v ∈ r, v < ns.length) → ∀ v ∈ ss.foldl (fun r s => if s.key.text = rankK then s.names.map (idx ns) else r) r, v < ns.length
  | [], r, _, h, v, hv => h v hv
  | s :: ss, r, hR, h, v, hv => by
    refine rankL_lt ss _ (fun x hx => hR x (List.mem_cons_of_mem _ hx)) (fun u hu => ?_) v hv
    dsimp only at hu
    split at hu
    · rename_i hk
      obtain ⟨t, ht, rfl⟩ := List.mem_map.mp hu
      exact idx_lt ((hR s (List.mem_cons_self ..)).rk hk t ht)
    · exact h u hu
theorem read_good {z : List Nat} {G : WGard} (h : readP z = .ok G) (hz : z.length ≤ 40000) : GOk G := by
  unfold readP at h
  cases e : parse z with
  | error x => rw [e] at h; cases h
  | ok ss =>
    rw [e] at h
    dsimp only at h
    cases e2 : checkAll ⟨0, [], 0, 0⟩ ss with
    | error x => rw [e2] at h; cases h
    | ok k =>
      rw [e2] at h
      cases h
      obtain ⟨hA, s0, s1, s2, rest, hS⟩ := parse_good e hz
      obtain ⟨c1, c2, c3, c4, c5⟩ := check_good e2 hA hS
      obtain ⟨rfl, k0, k1, k2, kr, hl⟩ := hS
      obtain ⟨g2, _, _⟩ := hA s2 (by simp)
      have hrl : (rankL (s2.names.map (·.text)) rest).length ≤ 50000 := rankF_le _ rest [] (Nat.zero_le _) fun s hs => (c4 s hs).l
      refine ⟨c2, Nat.le_trans c3 (by decide), c1, fun n hn => ?_, ?_, fun v hv => ?_, ?_, fun x hx => ?_, ?_⟩
      · obtain ⟨t, ht, rfl⟩ := List.mem_map.mp hn
        exact Nat.le_trans (g2.nm t ht).1.sh (by decide)
      · show (rankOf (s2.names.map (·.text)) rest).length ≤ 50008
        unfold rankOf
        rw [List.length_append]
        have := List.length_filter_le (fun v => decide (v ∉ rankL (s2.names.map (·.text)) rest)) (List.range (s2.names.map (·.text)).length)
        rw [List.length_range] at this
        omega
      · have hv : v ∈ rankOf (s2.names.map (·.text)) rest := hv
        show v < (s2.names.map (·.text)).length
        unfold rankOf at hv
        rcases List.mem_append.mp hv with hv | hv
        · exact rankL_lt rest [] c4 (fun v hv => by cases hv) v hv
        · exact List.mem_range.mp (List.mem_filter.mp hv).1
      · show (sortT (startsOf (s2.names.map (·.text)) rest)).length ≤ 20
        rw [(sortT_stb _).perm.length_eq]
        exact c5
      · have hx : x ∈ sortT (startsOf (s2.names.map (·.text)) rest) := hx
        obtain ⟨h1, h2, h3⟩ := starts_lt c4 x ((sortT_stb _).perm.mem_iff.mp hx)
        have c2 : num (s0.numbers.getD 0 s0.key) ≤ 60 := c2
        exact ⟨by omega, h2, by omega⟩
      · show (dryOf (num (s0.numbers.getD 0 s0.key)) rest).length ≤ 60
        unfold dryOf
        rw [dryF_len, List.length_replicate]
        exact c2
section
variable {P : Program} {w : World} {K : PySem.W.Frag} {mg : Str → Option Value} {base : Heap}
theorem sc_format_plan : FnScope ["plan"] ["plan"] (defScope s_format_plan) := ⟨rfl, rfl, rfl, by decide +kernel, rfl, by decide +kernel, by decide +kernel⟩
def sp_format_plan (CS CC : Addr) (TT : List (Addr × Str)) : Sp := fun vs H Q E => ∃ z : List Nat, vs = [.str (S z)] ∧ z.length ≤ 40000 ∧ Tabs TT H ∧
  (∀ G, readP z = .ok G → ∀ H', ExtN H H' → Tabs TT H' → Q (.str (S (textOf G))) H') ∧ (∀ x y, readP z = .error (.syn x y) → ESyn CS H E x y) ∧ (∀ r x y, readP z = .error (.chk r x y) → EChk CC H E r x y)
theorem ok_format_plan {f CS CC CG : Addr} {fd : FuncData} {TT : List (Addr × Str)} (F : Fun K "format_plan" "format_plan" s_format_plan f fd)
    (D_read_plan : DF P w K mg base (L2.CX P w) 14 "read_plan" ["plan"] (sp_read_plan CG CS CC TT)) (D_plan_text : DF P w K mg base CX0 2 "plan_text" ["garden"] (sp_plan_text CG)) :
    FnOk P w K mg base (L2.CX P w) 15 f fd ["plan"] (sp_format_plan CS CC TT) := by
  refine F.okX sc_format_plan (fun vs H Q E h => ?_) (fun cdv A outer s H vs Q E hr h => ?_)
  · obtain ⟨z, rfl, _⟩ := h
    rfl
  · obtain ⟨z, rfl, hz, hT, kY, kS, kC⟩ := h
    refine ⟨_, (pss_one (ps_ret (pe_call D_plan_text.G (hr.mono (by decide)) rfl D_plan_text.mg D_plan_text.kp D_plan_text.b .nil pass0 (pa_cons (pe_call D_read_plan.G (hr.mono (by decide)) rfl D_read_plan.mg D_read_plan.kp D_read_plan.b .nil (passes_call (takes_of rfl rfl rfl rfl) fun _ _ _ _ z => z) (pa_cons (pv 0) pa_nil)) pa_nil)))), ?_⟩
    walk_at "rd"
    refine ⟨z, rfl, hz, hT, fun G hG g H1 e1 t1 hg gA => ?_, kS, kC⟩
    exact ⟨g, G, rfl, gA, read_good hG hz, fun H2 s2 => kY G hG H2 (e1.trans (ExtN.of s2)) (t1.ext s2)⟩
end

end Wv
end WvK4_
section WvX1_
set_option Elab.async false
set_option linter.all false
set_option maxRecDepth 100000
set_option maxHeartbeats 4000000
namespace Wv
open PySem L2
open SX (S S_len S_inj)
local macro_rules | `(tactic| walk_at "rd") => `(tactic| (try simp only [tVar, tC, tB, tAnd, tOr, tNot, tAndV, tOrV, tNotV, tIf, tNext, tSeq, tBreak, tCont, tDrop, tRet, tRetN, tIfS, gName, gNil, gCons, gTup, gSub, tAsg, tPar, tAug, tOp, tUn, rI, rI0, rU, rEq, rNe, tTest, tFld, tNil, tCons, tTup, tLst, tCB, tNoPart, tPart, tSl, rIxL, rIxT, rIxS, rSlL, rSlS, tBM0, tBM, rAppend, rExtend, rCat, rRep, rSetL, tM0, tM1, tCall, tMeth, tMake, sFld, sFldAug, rAdd, rSub, ipI, tBM0,
  scal_ss, scal_ii, scal_bb, scal_ns, scal_sn, scal_nn, tyV_str, L2.start, List.map_cons, List.map_nil, List.length_cons, List.length_nil, List.replicate, List.cons_append, List.nil_append, List.append_nil, List.getElem?_cons_zero, List.getElem?_cons_succ, List.set_cons_zero, List.set_cons_succ, Nat.reduceAdd, Nat.reduceSub, Nat.zero_add, Nat.sub_self, Nat.add_one_sub_one,
  Option.some.injEq, exists_eq_left, exists_eq_left', exists_eq', exists_eq, V.int.injEq, V.str.injEq, V.ref.injEq, V.bl.injEq, reduceCtorEq, List.cons.injEq, and_true, true_and, exists_and_left, exists_and_right, and_assoc, decide_true, decide_false, if_true, if_false, ite_true, ite_false, Bool.false_eq_true, Bool.true_eq_false, eq_self_iff_true, cx_K, nox_K, tMkSyn, tMkChk, tYes, bne, ne_eq, not_false_eq_true, not_true_eq_false, Bool.not_true, Bool.not_false, decide_eq_true_eq, Bool.not_eq_true', decide_eq_false_iff_not]))
/-! ### the law's source of numbers -/
def GoodL (ys : List V) : Prop := ∃ (a b : Int) (r : List Int), ys = .int a :: .int b :: r.map V.int ∧ 0 ≤ a ∧ a < 2147483647 ∧ 0 ≤ b ∧ (∀ x ∈ r, 0 ≤ x) ∧ r.length ≤ 64
def GoodD (H : Hp) (d : Addr) : Prop := ∃ ys, H d = some (.lst ys) ∧ GoodL ys
theorem at_nat {α : Type} {xs : List α} {j : Nat} {v : α} (h : xs[j]? = some v) : atI xs ((j : Nat) : Int) = some v := atI_nat h
theorem below_rest {K : PySem.W.Frag} {d : Addr} {n : Nat} {Q : VK} {H : Hp} {a b : Int} {r : List Int} (hn1 : 1 ≤ n) (hn2 : n ≤ 100000000) (hd : H d = some (.lst (.int a :: .int b :: r.map V.int))) (ha0 : 0 ≤ a) (ha1 : a < 2147483647) (hb0 : 0 ≤ b) (hr0 : ∀ x ∈ r, 0 ≤ x) (hrl : r.length ≤ 64)
    (k : ∀ (r : Nat) (ys : List V), r < n → GoodL ys → Q (.int (r : Nat)) (upd H d (.lst ys))) :
    ∃ x, SqL K H d x ∧ ∃ x_2, atI x 1 = some x_2 ∧ ∃ i, x_2 = V.int i ∧ if 0 < i then
        ∃ x, SqL K H d x ∧ ∃ x_3, atI x 1 = some x_3 ∧ ∃ i, x_3 = V.int i ∧ 0 < ((n : Nat) : Int) ∧ ∃ x, SqL K H d x ∧ ∃ x_4, atI x 1 = some x_4 ∧ ∃ i_1, x_4 = V.int i_1 ∧ CDiv i_1 ((n : Nat) : Int) ∧ ∃ x, H d = some (HO.lst x) ∧ ∃ x_5, ixN x.length 1 = some x_5 ∧
          Q (V.int (i % ((n : Nat) : Int))) (upd H d (HO.lst (x.set x_5 (V.int (i_1 / ((n : Nat) : Int))))))
      else
        ∃ x, SqL K H d x ∧ ∃ x_3, atI x 0 = some x_3 ∧ ∃ i, x_3 = V.int i ∧ CMul i 48271 ∧ (0 : Int) < 2147483647 ∧ ∃ x, H d = some (HO.lst x) ∧ ∃ x_4, ixN x.length 0 = some x_4 ∧ ∃ x_5, SqL K (upd H d (HO.lst (x.set x_4 (V.int ((i * 48271 + 11) % 2147483647))))) d x_5 ∧
          ∃ x_6, atI x_5 0 = some x_6 ∧ ∃ i_1, x_6 = V.int i_1 ∧ CDiv i_1 64 ∧ 0 < ((n : Nat) : Int) ∧ Q (V.int (i_1 / 64 % ((n : Nat) : Int))) (upd H d (HO.lst (x.set x_4 (V.int ((i * 48271 + 11) % 2147483647))))) := by
  have hn0 : (0 : Int) < ((n : Nat) : Int) := by omega
  have i1 : ixN (V.int a :: V.int b :: r.map V.int).length 1 = some 1 := Evl.ixN_nat (j := 1) (by simp)
  have i0 : ixN (V.int a :: V.int b :: r.map V.int).length 0 = some 0 := Evl.ixN_nat (j := 0) (by simp)
  have a1 : atI (V.int a :: V.int b :: r.map V.int) 1 = some (.int b) := at_nat (j := 1) rfl
  have a0 : atI (V.int a :: V.int b :: r.map V.int) 0 = some (.int a) := at_nat (j := 0) rfl
  refine ⟨_, SqL.of hd, _, a1, b, rfl, ?_⟩
  by_cases hb : 0 < b
  · rw [if_pos hb]
    refine ⟨_, SqL.of hd, _, a1, b, rfl, hn0, _, SqL.of hd, _, a1, b, rfl, ⟨hn0, by omega⟩, _, hd, _, i1, ?_⟩
    have e : b % ((n : Nat) : Int) = (((b % ((n : Nat) : Int)).toNat : Nat) : Int) := (Int.toNat_of_nonneg (Int.emod_nonneg _ (by omega))).symm
    rw [e]
    refine k _ _ ?_ ⟨a, b / ((n : Nat) : Int), r, rfl, ha0, ha1, Int.ediv_nonneg hb0 (by omega), hr0, hrl⟩
    have := Int.emod_lt_of_pos b hn0
    omega
  · rw [if_neg hb]
    refine ⟨_, SqL.of hd, _, a0, a, rfl, ?_, by decide, _, hd, _, i0, _, SqL.of upd_same, _, at_nat (j := 0) rfl, _, rfl, ⟨by decide, by decide⟩, hn0, ?_⟩
    · first | exact .inr ⟨by decide, by decide⟩ | exact .inl ⟨by omega, by omega⟩ | (unfold CMul; omega)
    · have h1 : 0 ≤ (a * 48271 + 11) % 2147483647 := Int.emod_nonneg _ (by decide)
      have h2 : (a * 48271 + 11) % 2147483647 < 2147483647 := Int.emod_lt_of_pos _ (by decide)
      have e : (a * 48271 + 11) % 2147483647 / 64 % ((n : Nat) : Int) = ((((a * 48271 + 11) % 2147483647 / 64 % ((n : Nat) : Int)).toNat : Nat) : Int) := (Int.toNat_of_nonneg (Int.emod_nonneg _ (by omega))).symm
      rw [e]
      refine k _ _ ?_ ⟨_, b, r, rfl, h1, h2, hb0, hr0, hrl⟩
      have := Int.emod_lt_of_pos ((a * 48271 + 11) % 2147483647 / 64) hn0
      omega
section
variable {P : Program} {w : World} {K : PySem.W.Frag} {mg : Str → Option Value} {base : Heap}
theorem sc__law_below : FnScope ["_law_d", "_law_limit", "_law_result"] ["_law_d", "_law_limit"] (defScope s__law_below) := ⟨rfl, rfl, rfl, by decide +kernel, rfl, by decide +kernel, by decide +kernel⟩
def sp__law_below : Sp := fun vs H Q _ => ∃ (d : Addr) (n : Nat), vs = [.ref d, .int (n : Nat)] ∧ 1 ≤ n ∧ n ≤ 100000000 ∧ GoodD H d ∧ ∀ (r : Nat) (ys : List V), r < n → GoodL ys → Q (.int (r : Nat)) (upd H d (.lst ys))
theorem ok__law_below {f : Addr} {fd : FuncData} (F : Fun K "_law_below" "_law_below" s__law_below f fd) (T : TopF w K mg) : FnOk P w K mg base CX0 1 f fd ["_law_d", "_law_limit"] sp__law_below := by
  refine F.ok sc__law_below (fun vs H Q E h => ?_) (fun cdv A outer s H vs Q E hr h => ?_)
  · obtain ⟨d, n, rfl, _⟩ := h
    rfl
  · obtain ⟨d, n, rfl, hn1, hn2, ⟨ys, hd, a, b, r, rfl, ha0, ha1, hb0, hr0, hrl⟩, k⟩ := h
    refine ⟨_, (pss_cons (ps_if (PW.pt (pw_and (pt_cmpR op_eq (pe_ix ix_list (pv 0) pe_int (fun _ _ => rfl)) pe_int (nomark _)) (pw_and1 (pt_cmpR op_gt (pe_callB call_len_seq (by rfl) T.z_len (by decide +kernel) (pa_cons (pv 0) pa_nil)) pe_int (nomark _))))) (pss_one (ps_asg (pe_bm PySem.F.plainAttrs_list PySem.F.slot_list_pop PySem.F.type_list_pop mt_popAt (pv 0) (pa_cons pe_int pa_nil)) (pg_sub (pv 0) pe_int set_list))) pss_nil)
      (pss_cons (ps_if (pt_cmpR op_gt (pe_ix ix_list (pv 0) pe_int (fun _ _ => rfl)) pe_int (nomark _)) (pss_cons (ps_set (i := 2) sc__law_below.nd rfl (Or.inl rfl) (pe_op op_mod (pe_ix ix_list (pv 0) pe_int (fun _ _ => rfl)) (pv 1)))
      (pss_cons (ps_asg (pe_op op_fdiv (pe_ix ix_list (pv 0) pe_int (fun _ _ => rfl)) (pv 1)) (pg_sub (pv 0) pe_int set_list))
      (pss_one (ps_ret (pv 2))))) pss_nil)
      (pss_cons (ps_asg (pe_op op_mod (pe_op op_add (pe_op op_mul (pe_ix ix_list (pv 0) pe_int (fun _ _ => rfl)) pe_int) pe_int) pe_int) (pg_sub (pv 0) pe_int set_list))
      (pss_one (ps_ret (pe_op op_mod (pe_op op_fdiv (pe_ix ix_list (pv 0) pe_int (fun _ _ => rfl)) pe_int) (pv 1))))))), ?_⟩
    walk_at "rd"
    have i1 : ixN (V.int a :: V.int b :: r.map V.int).length 1 = some 1 := Evl.ixN_nat (j := 1) (by simp)
    have a1 : atI (V.int a :: V.int b :: r.map V.int) 1 = some (.int b) := at_nat (j := 1) rfl
    refine ⟨_, SqL.of hd, _, a1, scal_ii.mpr True.intro, ?_⟩
    by_cases hb : V.int b = V.int 0
    · rw [if_pos hb]
      obtain rfl : b = 0 := by injection hb
      refine ⟨_, .inl (SqL.of hd), ?_⟩
      by_cases hl : (2 : Int) < ((V.int a :: V.int 0 :: r.map V.int).length : Nat)
      · rw [if_pos hl]
        cases r with
        | nil => simp at hl
        | cons c r =>
          refine ⟨tyV_lst hd, d, _, 2, 2, .int c, rfl, rfl, hd, by decide, by decide, by simp [seqIndex?]; omega, rfl, ?_⟩
          have hc0 := hr0 c (List.mem_cons_self ..)
          refine ⟨_, upd_same, 1, Evl.ixN_nat (j := 1) (by simp), ?_⟩
          rw [upd_upd]
          refine below_rest hn1 hn2 upd_same ha0 ha1 hc0 (fun x hx => hr0 x (List.mem_cons_of_mem _ hx)) (by simp at hrl; omega) (fun q ys h1 h2 => ?_)
          rw [upd_upd]
          exact k q ys h1 h2
      · rw [if_neg hl]
        exact below_rest hn1 hn2 hd ha0 ha1 hb0 hr0 hrl k
    · rw [if_neg hb]
      exact below_rest hn1 hn2 hd ha0 ha1 hb0 hr0 hrl k
theorem sc__law_random : FnScope ["_law_script", "_law_salt", "_law_seed", "_law_cell"] ["_law_script", "_law_salt"] (defScope s__law_random) := ⟨rfl, rfl, rfl, by decide +kernel, rfl, by decide +kernel, by decide +kernel⟩
def sp__law_random (K : PySem.W.Frag) : Sp := fun vs H Q _ => ∃ (sl : Addr) (ns : List Int) (salt : Nat), vs = [.ref sl, .int (salt : Nat)] ∧ SqL K H sl (ns.map V.int) ∧ ns.length ≤ 63 ∧ salt < 1000 ∧ ∀ p ys H', H p = none → Same H H' → H' p = some (.lst ys) → GoodL ys → Q (.ref p) H'
def IRa (sl : Addr) (salt : Nat) (H : Hp) (i : Nat) (σ : L2.St) (H' : Hp) : Prop := ∃ (s : Int) (v v2 : Option V), σ = [some (.ref sl), some (.int (salt : Nat)), some (.int s), v] ∧ H' = H ∧ 0 ≤ s ∧ s < 2147483647
theorem ok__law_random {f : Addr} {fd : FuncData} (F : Fun K "_law_random" "_law_random" s__law_random f fd) (T : TopF w K mg) : FnOk P w K mg base CX0 1 f fd ["_law_script", "_law_salt"] (sp__law_random K) := by
  refine F.ok sc__law_random (fun vs H Q E h => ?_) (fun cdv A outer s H vs Q E hr h => ?_)
  · obtain ⟨sl, ns, salt, rfl, _⟩ := h
    rfl
  · obtain ⟨sl, ns, salt, rfl, hsl, hl, hs, k⟩ := h
    refine ⟨_, (pss_cons (ps_set (i := 2) sc__law_random.nd rfl (Or.inl rfl) (pv 1))
      (pss_cons (ps_for PassesOwn.never rfl (pi_list (pv 0)) (pg_name (i := 3) sc__law_random.nd rfl (Or.inl rfl)) (pss_one (ps_set (i := 2) sc__law_random.nd rfl (Or.inl rfl) (pe_op op_mod (pe_op op_add (pe_op op_mul (pv 2) pe_int) (pe_callB call_abs (by rfl) T.z_abs (by decide +kernel) (pa_cons (pv 3) pa_nil))) pe_int))))
      (pss_one (ps_ret (pe_op op_cat (pe_lst (pa_cons (pv 2) (pa_cons pe_int pa_nil))) (pe_lc (own := [("_law_cell", 3)]) (g := gName 3) (tt := (tTest (tOp _ (tVar 3) (tOp _ (tC (.int 10)) (tC (.int 18)))))) (te := (tVar 3)) rfl sc__law_random.nd (pi_list (pv 0)) (blkOk_by (N := ["_law_script", "_law_salt", "_law_seed", "_law_cell"]) (sc := defScope s__law_random) (by decide +kernel)) (fun _ _ _ _ _ => (pg_name (i := 3) sc__law_random.nd rfl (Or.inl rfl))) (fun _ _ _ _ _ => pts_one (pt_cmpR op_ge (pv 3) (pe_op op_pow pe_int pe_int) (nomark _))) (fun _ _ _ _ _ => (pv 3)))))))), ?_⟩
    walk_at "rd"
    refine ⟨_, rfl, sl, rfl, ⟨_, hsl⟩, ?_⟩
    refine for_it (walk_list (xs := ns.map V.int)) (IRa sl salt H) ⟨salt, none, none, rfl, rfl, by omega, by omega⟩ (fun i σ H' _ h => ?_) ?_ ?_
    · obtain ⟨_, _, _, _, rfl, _⟩ := h
      exact hsl
    · rintro i x σ H1 H2 hi ⟨s, v, v2, rfl, rfl, h0, h1⟩ ⟨rfl, ex⟩
      rw [List.getElem?_map] at ex
      obtain ⟨c, hc, rfl⟩ := Option.map_eq_some_iff.mp ex
      walk_at "rd"
      exact ⟨.inl ⟨by omega, by omega⟩, by decide, _, _, none, rfl, rfl, Int.emod_nonneg _ (by decide), Int.emod_lt_of_pos _ (by decide)⟩
    · rintro σ H1 ⟨s, v, v2, rfl, rfl, h0, h1⟩
      walk_at "rd"
      refine ⟨by decide +kernel, fun p hp => ?_⟩
      have s1 : Same H1 (upd H1 p (.lst [.int s, .int 0])) := same_new hp
      have hp1 : (upd H1 p (.lst [.int s, .int 0])) p = some (.lst [.int s, .int 0]) := upd_same
      generalize upd H1 p (.lst [.int s, .int 0]) = H2 at *
      refine ⟨_, rfl, sl, rfl, ⟨_, s1.seq hsl⟩, fun D hD => ?_⟩
      refine lc_list (xs := ns.map V.int) (fun i H' => H' = upd H2 D (.lst (((ns.take i).filter fun c => decide ((10 : Int) ^ 18 ≤ c)).map V.int))) (by simp) (fun i H' _ e => ?_) (fun i x H' hx e => ?_) (fun H' e => ?_)
      · subst e
        exact (s1.trans (same_new hD)).seq hsl
      · subst e
        rw [List.getElem?_map] at hx
        obtain ⟨c, hc, rfl⟩ := Option.map_eq_some_iff.mp hx
        have hst : ((ns.take (i + 1)).filter fun c => decide ((10 : Int) ^ 18 ≤ c)) = ((ns.take i).filter fun c => decide ((10 : Int) ^ 18 ≤ c)) ++ (if (10 : Int) ^ 18 ≤ c then [c] else []) := by
          rw [List.take_add_one, hc, List.filter_append]
          show _ ++ List.filter _ [c] = _
          rw [List.filter_cons, List.filter_nil]
          by_cases h : (10 : Int) ^ 18 ≤ c
          · rw [if_pos h, if_pos (decide_eq_true h)]
          · rw [if_neg h, if_neg (fun z => h (of_decide_eq_true z))]
        have hfl : ((ns.take i).filter fun c => decide ((10 : Int) ^ 18 ≤ c)).length ≤ 63 := by
          have := List.length_filter_le (fun c => decide ((10 : Int) ^ 18 ≤ c)) (ns.take i)
          rw [List.length_take] at this
          omega
        rw [hst]
        refine ⟨rfl, _, rfl, 10, 18, rfl, rfl, ⟨by decide, by decide, by decide⟩, c, _, rfl, rfl, _, rfl, ?_⟩
        by_cases h : (10 : Int) ^ 18 ≤ c
        · rw [if_pos h]
          have h' : (10 : Int) ^ (18 : Int).toNat ≤ c := h
          show if decide ((10 : Int) ^ (18 : Int).toNat ≤ c) = true then _ else _
          rw [if_pos (decide_eq_true h')]
          refine ⟨_, rfl, _, upd_same, line_lt (by rw [List.length_map]; omega), ?_⟩
          rw [upd_upd, List.map_append]
          rfl
        · rw [if_neg h, List.append_nil]
          have h' : ¬ (10 : Int) ^ (18 : Int).toNat ≤ c := h
          show if decide ((10 : Int) ^ (18 : Int).toNat ≤ c) = true then _ else _
          rw [if_neg (fun z => h' (of_decide_eq_true z))]
      · subst e
        rw [List.length_map, List.take_length]
        have hfl : (ns.filter fun c => decide ((10 : Int) ^ 18 ≤ c)).length ≤ 63 := by
          have := List.length_filter_le (fun c => decide ((10 : Int) ^ 18 ≤ c)) ns
          omega
        refine ⟨D, rfl, _, (same_new hD) _ _ hp1, _, upd_same, ?_, fun q hq => ?_⟩
        · rw [List.length_map]
          exact line_of (show 2 + _ ≤ 100000 by omega)
        · refine k q _ _ ((s1.trans (same_new hD)).free hq) ((s1.trans (same_new hD)).trans (same_new hq)) upd_same ⟨s, 0, _, rfl, h0, h1, by decide, fun x hx => ?_, by omega⟩
          have := of_decide_eq_true (List.mem_filter.mp hx).2
          have h18 : (0 : Int) ≤ 10 ^ 18 := by decide
          omega
end
/-- all but the thing at d stays -/
def Keep (d : Addr) (H H' : Hp) : Prop := ∀ b o, b ≠ d → H b = some o → H' b = some o
theorem Keep.d {d : Addr} {H H' : Hp} {o : HO} (k : Keep d H H') : Keep d H (upd H' d o) := fun b u n e => by rw [upd_ne n]; exact k b u n e
theorem Keep.p {d p : Addr} {H H' : Hp} {o : HO} (k : Keep d H H') (h : H' p = none) : Keep d H (upd H' p o) := fun b u n e => (same_new h) b u (k b u n e)
theorem blw {d : Addr} {H : Hp} {Q : VK} {E : XK} (n : Nat) (hn1 : 1 ≤ n) (hn2 : n ≤ 100000000) (hd : GoodD H d) (k : ∀ (r : Nat) (ys : List V), r < n → GoodL ys → Q (.int (r : Nat)) (upd H d (.lst ys))) : sp__law_below [.ref d, .int (n : Nat)] H Q E := ⟨d, n, rfl, hn1, hn2, hd, k⟩

end Wv
end WvX1_
section WvR1_
set_option Elab.async false
set_option linter.all false
set_option maxRecDepth 100000
set_option maxHeartbeats 4000000
namespace Wv
open PySem L2
open SX (S S_len S_inj)
local macro_rules | `(tactic| walk_at "rd") => `(tactic| (try simp only [tVar, tC, tB, tAnd, tOr, tNot, tAndV, tOrV, tNotV, tIf, tNext, tSeq, tBreak, tCont, tDrop, tRet, tRetN, tIfS, gName, gNil, gCons, gTup, gSub, tAsg, tPar, tAug, tOp, tUn, rI, rI0, rU, rEq, rNe, tTest, tFld, tNil, tCons, tTup, tLst, tCB, tNoPart, tPart, tSl, rIxL, rIxT, rIxS, rSlL, rSlS, tBM0, tBM, rAppend, rExtend, rCat, rRep, rSetL, tM0, tM1, tCall, tMeth, tMake, sFld, sFldAug, rAdd, rSub, ipI, tBM0,
  scal_ss, scal_ii, scal_bb, scal_ns, scal_sn, scal_nn, tyV_str, L2.start, List.map_cons, List.map_nil, List.length_cons, List.length_nil, List.replicate, List.cons_append, List.nil_append, List.append_nil, List.getElem?_cons_zero, List.getElem?_cons_succ, List.set_cons_zero, List.set_cons_succ, Nat.reduceAdd, Nat.reduceSub, Nat.zero_add, Nat.sub_self, Nat.add_one_sub_one,
  Option.some.injEq, exists_eq_left, exists_eq_left', exists_eq', exists_eq, V.int.injEq, V.str.injEq, V.ref.injEq, V.bl.injEq, reduceCtorEq, List.cons.injEq, and_true, true_and, exists_and_left, exists_and_right, and_assoc, decide_true, decide_false, if_true, if_false, ite_true, ite_false, Bool.false_eq_true, Bool.true_eq_false, eq_self_iff_true, cx_K, nox_K, tMkSyn, tMkChk, tYes, bne, ne_eq, not_false_eq_true, not_true_eq_false, Bool.not_true, Bool.not_false, decide_eq_true_eq, Bool.not_eq_true', decide_eq_false_iff_not]))
/-! ### a list in a random order -/
open LamX
def FlatV (x : V) : Prop := (∃ i : Int, x = .int i) ∨ ∃ s : Str, x = .str s ∧ PyData.strOk s = true
def pd : V → PyData
  | .int i => .int i
  | .str s => .str s
  | _ => .none
theorem dp_one {K : PySem.W.Frag} {H : Hp} {x : V} (h : FlatV x) : Dp K H x (pd x) := by
  rcases h with ⟨i, rfl⟩ | ⟨s, rfl, _⟩
  · exact .int i
  · exact .str s
theorem dp_all {K : PySem.W.Frag} {H : Hp} : ∀ {xs : List V}, (∀ x ∈ xs, FlatV x) → DpAll K H xs (xs.map pd)
  | [], _ => .nil
  | x :: xs, h => .cons (dp_one (h x (List.mem_cons_self ..))) (dp_all fun y hy => h y (List.mem_cons_of_mem _ hy))
theorem lay_all : ∀ {xs : List V}, (∀ x ∈ xs, FlatV x) → PyData.canLayAll0 (xs.map pd) = true
  | [], _ => rfl
  | x :: xs, h => by
    have h1 := lay_all fun y hy => h y (List.mem_cons_of_mem _ hy)
    rcases h x (List.mem_cons_self ..) with ⟨i, rfl⟩ | ⟨s, rfl, hs⟩
    · simp [pd, PyData.canLayAll0, PyData.canLay0, h1]
    · simp [pd, PyData.canLayAll0, PyData.canLay0, h1, hs]
theorem deep_all : ∀ {xs : List V}, (∀ x ∈ xs, FlatV x) → PyData.depthAll (xs.map pd) = 0
  | [], _ => rfl
  | x :: xs, h => by
    have h1 := deep_all fun y hy => h y (List.mem_cons_of_mem _ hy)
    rcases h x (List.mem_cons_self ..) with ⟨i, rfl⟩ | ⟨s, rfl, hs⟩
    · simp [pd, PyData.depthAll, PyData.depth, h1]
    · simp [pd, PyData.depthAll, PyData.depth, h1]
theorem shaped_flat {xs : List V} (h : ∀ x ∈ xs, FlatV x) : SeqAt.shaped (.list (xs.map pd)) = true := by
  unfold SeqAt.shaped
  rw [Bool.and_eq_true]
  exact ⟨by simp only [PyData.canLay0]; exact lay_all h, decide_eq_true (by simp only [PyData.depth, deep_all h]; omega)⟩
theorem eqv_nil (ds : List PyData) : PyData.eqv (.list ds) (.list []) = ds.isEmpty := by cases ds <;> simp [PyData.eqv, PyData.eqvAll]
/-- xs != [] -/
theorem ne_nil {K : PySem.W.Frag} {H : Hp} {l p : Addr} {xs : List V} {Q : VK} (hl : H l = some (.lst xs)) (h : ∀ x ∈ xs, FlatV x) (hp : H p = some (.lst [])) (q : Q (.bl (!xs.isEmpty)) H) : rNeD K (.ref l) (.ref p) H Q := by
  refine ⟨.list (xs.map pd), .list [], .lst (SqL.of hl) (dp_all h), .lst (SqL.of hp) .nil, shaped_flat h, by decide, ?_⟩
  rw [eqv_nil]
  simpa using q
theorem perm_erase {α : Type} : ∀ (us : List α) (q : Nat) (h : q < us.length), (us[q] :: us.eraseIdx q).Perm us
  | u :: us, 0, _ => List.Perm.refl _
  | u :: us, q + 1, h => by
    have h' : q < us.length := by simpa using h
    show (us[q] :: u :: us.eraseIdx q).Perm (u :: us)
    exact (List.Perm.swap u us[q] _).trans ((perm_erase us q h').cons u)
section
variable {P : Program} {w : World} {K : PySem.W.Frag} {mg : Str → Option Value} {base : Heap}
theorem sc__law_shuffled : FnScope ["_law_d", "_law_items", "_law_pool", "_law_result"] ["_law_d", "_law_items"] (defScope s__law_shuffled) := ⟨rfl, rfl, rfl, by decide +kernel, rfl, by decide +kernel, by decide +kernel⟩
def sp__law_shuffled (K : PySem.W.Frag) : Sp := fun vs H Q _ => ∃ (d il : Addr) (xs : List V), vs = [.ref d, .ref il] ∧ GoodD H d ∧ (SqL K H il xs ∨ SqT K H il xs) ∧ (∀ x ∈ xs, FlatV x) ∧ xs.length ≤ 1000 ∧
  ∀ ys p H', ys.Perm xs → H p = none → Keep d H H' → H' p = some (.lst ys) → GoodD H' d → Q (.ref p) H'
def ISh (d il pl rl : Addr) (xs : List V) (H : Hp) (m : Nat) (σ : L2.St) (H' : Hp) : Prop := ∃ us ys : List V, σ = [some (.ref d), some (.ref il), some (.ref pl), some (.ref rl)] ∧ H' pl = some (.lst us) ∧ H' rl = some (.lst ys) ∧ (ys ++ us).Perm xs ∧ us.length = m ∧ GoodD H' d ∧ Keep d H H'
theorem ok__law_shuffled {f : Addr} {fd : FuncData} (F : Fun K "_law_shuffled" "_law_shuffled" s__law_shuffled f fd) (T : TopF w K mg)
    (D__law_below : DF P w K mg base CX0 1 "_law_below" ["_law_d", "_law_limit"] sp__law_below) : FnOk P w K mg base CX0 2 f fd ["_law_d", "_law_items"] (sp__law_shuffled K) := by
  refine F.ok sc__law_shuffled (fun vs H Q E h => ?_) (fun cdv A outer s H vs Q E hr h => ?_)
  · obtain ⟨d, il, xs, rfl, _⟩ := h
    rfl
  · obtain ⟨d, il, xs, rfl, gd, hil, hx, hl, k⟩ := h
    refine ⟨_, (pss_cons (ps_set (i := 2) sc__law_shuffled.nd rfl (Or.inl rfl) (pe_callTy call_list_of (by rfl) T.z_list (by decide +kernel) (pa_cons (pv 1) pa_nil)))
      (pss_cons (ps_set (i := 3) sc__law_shuffled.nd rfl (Or.inl rfl) (pe_lst pa_nil))
      (pss_cons (ps_while PassesOwn.never (pt_cmpR (op_neD hr.units) (pv 2) (pe_lst pa_nil) (nomark _)) (pss_one (ps_expr (pe_bm PySem.F.plainAttrs_list PySem.F.slot_list_append PySem.F.type_list_append mt_append (pv 3) (pa_cons (pe_bm PySem.F.plainAttrs_list PySem.F.slot_list_pop PySem.F.type_list_pop mt_popAt (pv 2) (pa_cons (pe_call D__law_below.G (hr.mono (by decide)) rfl D__law_below.mg D__law_below.kp D__law_below.b .nil pass0 (pa_cons (pv 0) (pa_cons (pe_callB call_len_seq (by rfl) T.z_len (by decide +kernel) (pa_cons (pv 2) pa_nil)) pa_nil))) pa_nil)) pa_nil)))))
      (pss_one (ps_ret (pv 3)))))), ?_⟩
    walk_at "rd"
    refine ⟨xs, hil, fun pl np => ⟨Nat.zero_le _, fun rl nr => ?_⟩⟩
    obtain ⟨yd, hd, gy⟩ := gd
    have ndp : d ≠ pl := ne_of_none hd np
    have hd1 := (same_new (o := .lst xs) np) _ _ hd
    have ndr : d ≠ rl := ne_of_none hd1 nr
    have nrp : rl ≠ pl := fun e => by rw [e, upd_same] at nr; cases nr
    have hp1 : (upd (upd H pl (.lst xs)) rl (.lst [])) pl = some (.lst xs) := (same_new nr) _ _ upd_same
    have hr1 : (upd (upd H pl (.lst xs)) rl (.lst [])) rl = some (.lst []) := upd_same
    have k1 : Keep d H (upd (upd H pl (.lst xs)) rl (.lst [])) := (Keep.p (Keep.p (fun b o _ e => e) np) nr)
    have g1 : GoodD (upd (upd H pl (.lst xs)) rl (.lst [])) d := ⟨yd, (same_new nr) _ _ hd1, gy⟩
    have nr0 : H rl = none := by rw [upd_ne nrp] at nr; exact nr
    generalize upd (upd H pl (.lst xs)) rl (.lst []) = H1 at *
    refine ⟨ISh d il pl rl xs H, ⟨xs.length, xs, [], rfl, hp1, hr1, List.Perm.refl _, rfl, g1, k1⟩, ?_⟩
    rintro m σ H2 ⟨us, ys, rfl, hp2, hr2, hperm, hm, gd2, k2⟩
    walk_at "rd"
    have hus : ∀ x ∈ us, FlatV x := fun x h => hx x (hperm.mem_iff.mp (List.mem_append_right _ h))
    have hul : us.length ≤ 1000 := by
      have := hperm.length_eq
      rw [List.length_append] at this
      omega
    have hyl : ys.length ≤ 1000 := by
      have := hperm.length_eq
      rw [List.length_append] at this
      omega
    refine ⟨Nat.zero_le _, fun e ne => ne_nil ((same_new ne) _ _ hp2) hus upd_same ?_⟩
    have se := same_new (o := .lst []) ne
    have ke : Keep d H (upd H2 e (.lst [])) := k2.p ne
    obtain ⟨yd2, hd2, gy2⟩ := gd2
    have hd3 := se _ _ hd2
    have hp3 := se _ _ hp2
    have hr3 := se _ _ hr2
    generalize upd H2 e (.lst []) = H3 at *
    by_cases hne : us = []
    · subst hne
      refine ⟨false, rfl, ?_⟩
      rw [if_neg Bool.false_ne_true]
      exact k ys rl _ (by simpa using hperm) nr0 ke hr3 ⟨yd2, hd3, gy2⟩
    · have hpos : 0 < us.length := List.length_pos_iff.mpr hne
      refine ⟨true, by cases us with | nil => exact absurd rfl hne | cons a b => rfl, ?_⟩
      rw [if_pos rfl]
      refine ⟨_, fun _ _ z => z, tyV_lst hr3, tyV_lst hp3, us, .inl (SqL.of hp3), blw us.length hpos (by omega) ⟨yd2, hd3, gy2⟩ fun q zs hq gz => ?_⟩
      have hp4 : (upd H3 d (.lst zs)) pl = some (.lst us) := (upd_ne (Ne.symm ndp)).trans hp3
      have hr4 : (upd H3 d (.lst zs)) rl = some (.lst ys) := (upd_ne (Ne.symm ndr)).trans hr3
      have hd4 : (upd H3 d (.lst zs)) d = some (.lst zs) := upd_same
      have k4 : Keep d H (upd H3 d (.lst zs)) := ke.d
      generalize upd H3 d (.lst zs) = H4 at *
      refine ⟨pl, us, (q : Nat), q, us[q], rfl, rfl, hp4, by omega, by omega, by simp [seqIndex?]; omega, List.getElem?_eq_getElem hq, _, (upd_ne nrp).trans hr4, line_lt (by omega), ?_⟩
      refine ⟨us.length - 1, by omega, us.eraseIdx q, ys ++ [us[q]], rfl, ?_, upd_same, ?_, ?_, ⟨zs, ?_, gz⟩, ?_⟩
      · rw [upd_ne (Ne.symm nrp)]
        exact upd_same
      · refine List.Perm.trans ?_ hperm
        rw [List.append_assoc]
        exact (perm_erase us q hq).append_left ys
      · rw [List.length_eraseIdx, if_pos hq]
      · rw [upd_ne ndr, upd_ne ndp]
        exact hd4
      · intro b o n hb
        rw [upd_ne (fun z => by rw [z, nr0] at hb; cases hb), upd_ne (fun z => by rw [z, np] at hb; cases hb)]
        exact k4 b o n hb
end

end Wv
end WvR1_
section WvR2_
set_option Elab.async false
set_option linter.all false
set_option maxRecDepth 100000
set_option maxHeartbeats 4000000
namespace Wv
open PySem L2
open SX (S S_len S_inj)
local macro_rules | `(tactic| walk_at "rd") => `(tactic| (try simp only [tVar, tC, tB, tAnd, tOr, tNot, tAndV, tOrV, tNotV, tIf, tNext, tSeq, tBreak, tCont, tDrop, tRet, tRetN, tIfS, gName, gNil, gCons, gTup, gSub, tAsg, tPar, tAug, tOp, tUn, rI, rI0, rU, rEq, rNe, tTest, tFld, tNil, tCons, tTup, tLst, tCB, tNoPart, tPart, tSl, rIxL, rIxT, rIxS, rSlL, rSlS, tBM0, tBM, rAppend, rExtend, rCat, rRep, rSetL, tM0, tM1, tCall, tMeth, tMake, sFld, sFldAug, rAdd, rSub, ipI, tBM0,
  scal_ss, scal_ii, scal_bb, scal_ns, scal_sn, scal_nn, tyV_str, L2.start, List.map_cons, List.map_nil, List.length_cons, List.length_nil, List.replicate, List.cons_append, List.nil_append, List.append_nil, List.getElem?_cons_zero, List.getElem?_cons_succ, List.set_cons_zero, List.set_cons_succ, Nat.reduceAdd, Nat.reduceSub, Nat.zero_add, Nat.sub_self, Nat.add_one_sub_one,
  Option.some.injEq, exists_eq_left, exists_eq_left', exists_eq', exists_eq, V.int.injEq, V.str.injEq, V.ref.injEq, V.bl.injEq, reduceCtorEq, List.cons.injEq, and_true, true_and, exists_and_left, exists_and_right, and_assoc, decide_true, decide_false, if_true, if_false, ite_true, ite_false, Bool.false_eq_true, Bool.true_eq_false, eq_self_iff_true, cx_K, nox_K, tMkSyn, tMkChk, tYes, bne, ne_eq, not_false_eq_true, not_true_eq_false, Bool.not_true, Bool.not_false, decide_eq_true_eq, Bool.not_eq_true', decide_eq_false_iff_not]))
/-! ### the longest runs of ascending ticks, as the law finds them -/
open LamX
def runA1 (r : List (Nat × Nat)) (t : Nat) : List (Nat × Nat) := match r.getLast? with
  | some x => if (x.2 : Int) = (t : Int) - 1 then r.dropLast ++ [(x.1, t)] else r ++ [(t, t)]
  | none => [(t, t)]
def runsA (ts : List Nat) : List (Nat × Nat) := ts.foldl runA1 []
def prd (x : Nat × Nat) : PyData := .tuple [.int (x.1 : Nat), .int (x.2 : Nat)]
theorem dp_pairs {K : PySem.W.Frag} {H : Hp} : ∀ {as : List Addr} {rs : List (Nat × Nat)}, Each (PairAt H) as rs → DpAll K H (as.map V.ref) (rs.map prd)
  | [], [], _ => .nil
  | a :: as, r :: rs, h => .cons (.tup (SqT.of (h.2 0 a r rfl rfl)) (.cons (.int _) (.cons (.int _) .nil))) (dp_pairs (as := as) (rs := rs) ⟨by simpa using h.1, fun i b t hb ht => h.2 (i + 1) b t hb ht⟩)
  | [], _ :: _, h => by simpa using h.1
  | _ :: _, [], h => by simpa using h.1
theorem lay_pairs : ∀ rs : List (Nat × Nat), PyData.canLayAll0 (rs.map prd) = true
  | [] => rfl
  | r :: rs => by simp [prd, PyData.canLayAll0, PyData.canLay0, lay_pairs rs]
theorem deep_pairs : ∀ rs : List (Nat × Nat), PyData.depthAll (rs.map prd) ≤ 1
  | [] => by simp [PyData.depthAll]
  | r :: rs => by
    have := deep_pairs rs
    simp [prd, PyData.depthAll, PyData.depth]
    omega
theorem ne_nilP {K : PySem.W.Frag} {H : Hp} {l p : Addr} {as : List Addr} {rs : List (Nat × Nat)} {Q : VK} (hl : H l = some (.lst (as.map V.ref))) (h : Each (PairAt H) as rs) (hp : H p = some (.lst [])) (q : Q (.bl (!rs.isEmpty)) H) : rNeD K (.ref l) (.ref p) H Q := by
  refine ⟨.list (rs.map prd), .list [], .lst (SqL.of hl) (dp_pairs h), .lst (SqL.of hp) .nil, ?_, by decide, ?_⟩
  · unfold SeqAt.shaped
    rw [Bool.and_eq_true]
    have := deep_pairs rs
    exact ⟨by simp only [PyData.canLay0]; exact lay_pairs rs, decide_eq_true (by simp only [PyData.depth]; omega)⟩
  · rw [eqv_nil]
    simpa using q
theorem at_last {xs : List V} {v : V} : atI (xs ++ [v]) (-1) = some v := by
  unfold atI
  rw [ixN_last (by simp)]
  simp
theorem cut_last {xs : List V} {v : V} : cutV (xs ++ [v]) none (some (-1)) = xs := by
  have h1 : HT.sIx (xs ++ [v]).length (xs ++ [v]).length (some (-1)) = xs.length := by
    show (if (-1 : Int) < 0 then ((-1 : Int) + ((xs ++ [v]).length : Int)).toNat else min (-1 : Int).toNat (xs ++ [v]).length) = _
    rw [if_pos (by decide), List.length_append, List.length_singleton]
    omega
  unfold cutV
  rw [HT.sIx_none, h1, List.drop_zero, Nat.sub_zero, List.take_left]
theorem runs_step {ts : List Nat} {i t : Nat} (ht : ts[i]? = some t) : runsA (ts.take (i + 1)) = runA1 (runsA (ts.take i)) t := by
  unfold runsA
  rw [List.take_add_one, ht, List.foldl_append]
  rfl
theorem last_split {α : Type} {r : List α} (h : r ≠ []) : ∃ l x, r = l ++ [x] := ⟨r.dropLast, r.getLast h, (List.dropLast_concat_getLast h).symm⟩
theorem each_snoc_inv {α : Type} {R : Addr → α → Prop} {as : List Addr} {ts : List α} {x : α} (h : Each R as (ts ++ [x])) : ∃ bs b, as = bs ++ [b] ∧ Each R bs ts ∧ R b x := by
  have hl := h.1
  rw [List.length_append, List.length_singleton] at hl
  obtain ⟨bs, b, rfl⟩ := last_split (r := as) (by intro e; subst e; simp at hl)
  rw [List.length_append, List.length_singleton] at hl
  have hlen : bs.length = ts.length := by omega
  refine ⟨bs, b, rfl, ⟨hlen, fun i a t ha ht => h.2 i a t ?_ ?_⟩, h.2 bs.length b x (by simp) (by rw [hlen]; simp)⟩
  · rw [List.getElem?_append_left (List.getElem?_eq_some_iff.mp ha).1]
    exact ha
  · rw [List.getElem?_append_left (List.getElem?_eq_some_iff.mp ht).1]
    exact ht
section
variable {P : Program} {w : World} {K : PySem.W.Frag} {mg : Str → Option Value} {base : Heap}
theorem sc__law_runs : FnScope ["_law_paused", "_law_found", "_law_tick"] ["_law_paused"] (defScope s__law_runs) := ⟨rfl, rfl, rfl, by decide +kernel, rfl, by decide +kernel, by decide +kernel⟩
def sp__law_runs : Sp := fun vs H Q _ => ∃ (ql : Addr) (ts : List Nat), vs = [.ref ql] ∧ H ql = some (.lst (ts.map fun t => V.int (t : Nat))) ∧ ts.length ≤ 100 ∧
  ∀ p as H', Same H H' → H p = none → H' p = some (.lst (as.map V.ref)) → Each (PairAt H') as (runsA ts) → Q (.ref p) H'
def IRu (ql : Addr) (ts : List Nat) (H : Hp) (i : Nat) (σ : L2.St) (H' : Hp) : Prop := ∃ (l : Addr) (as : List Addr) (v : Option V), σ = [some (.ref ql), some (.ref l), v] ∧ H l = none ∧ Same H H' ∧ H' l = some (.lst (as.map V.ref)) ∧ Each (PairAt H') as (runsA (ts.take i)) ∧ as.length ≤ i
theorem ok__law_runs {f : Addr} {fd : FuncData} (F : Fun K "_law_runs" "_law_runs" s__law_runs f fd) : FnOk P w K mg base CX0 1 f fd ["_law_paused"] sp__law_runs := by
  refine F.ok sc__law_runs (fun vs H Q E h => ?_) (fun cdv A outer s H vs Q E hr h => ?_)
  · obtain ⟨ql, ts, rfl, _⟩ := h
    rfl
  · obtain ⟨ql, ts, rfl, hq, hl, k⟩ := h
    refine ⟨_, (pss_cons (ps_set (i := 1) sc__law_runs.nd rfl (Or.inl rfl) (pe_lst pa_nil))
      (pss_cons (ps_for PassesOwn.never rfl (pi_list (pv 0)) (pg_name (i := 2) sc__law_runs.nd rfl (Or.inl rfl)) (pss_one (ps_if (PW.pt (pw_and (pt_cmpR (op_neD hr.units) (pv 1) (pe_lst pa_nil) (nomark _)) (pw_and1 (pt_cmpR op_eq (pe_ix ix_tup (pe_ix ix_list (pv 1) (pe_un un_neg pe_int) (fun _ _ => rfl)) pe_int (fun _ _ => rfl)) (pe_op op_sub (pv 2) pe_int) (nomark _))))) (pss_one (ps_set (i := 1) sc__law_runs.nd rfl (Or.inl rfl) (pe_op op_cat (pe_slice sl_list (pv 1) po_none (po_some (pe_un un_neg pe_int))) (pe_lst (pa_cons (pe_tup (pa_cons (pe_ix ix_tup (pe_ix ix_list (pv 1) (pe_un un_neg pe_int) (fun _ _ => rfl)) pe_int (fun _ _ => rfl)) (pa_cons (pv 2) pa_nil))) pa_nil))))) (pss_one (ps_expr (pe_bm PySem.F.plainAttrs_list PySem.F.slot_list_append PySem.F.type_list_append mt_append (pv 1) (pa_cons (pe_tup (pa_cons (pv 2) (pa_cons (pv 2) pa_nil))) pa_nil)))))))
      (pss_one (ps_ret (pv 1))))), ?_⟩
    walk_at "rd"
    refine ⟨Nat.zero_le _, fun l nl => ?_⟩
    refine ⟨_, rfl, ql, rfl, ⟨_, SqL.of (same_new nl _ _ hq)⟩, ?_⟩
    refine for_it (walk_list (xs := ts.map fun t => V.int (t : Nat))) (IRu ql ts H) ⟨l, [], none, rfl, nl, same_new nl, upd_same, Each.nil, Nat.zero_le _⟩ (fun i σ H' _ h => ?_) ?_ ?_
    · obtain ⟨_, _, _, _, _, s1, _⟩ := h
      exact SqL.of (s1 _ _ hq)
    · rintro i x σ H1 H2 hi ⟨l, as, v, rfl, nl, s1, hl1, hE, hlen⟩ ⟨rfl, ex⟩
      rw [List.getElem?_map] at ex
      obtain ⟨t, ht, rfl⟩ := Option.map_eq_some_iff.mp ex
      walk_at "rd"
      have hal : as.length ≤ 100 := by
        rw [List.length_map] at hi
        omega
      refine ⟨Nat.zero_le _, fun e ne => ne_nilP ((same_new ne) _ _ hl1) (hE.imp fun a x h => (same_new ne) _ _ h) upd_same ?_⟩
      have se := same_new (o := .lst []) ne
      have s2 := s1.trans se
      have hl2 := se _ _ hl1
      have hE2 : Each (PairAt (upd H2 e (.lst []))) as (runsA (ts.take i)) := hE.imp fun a x h => se _ _ h
      generalize upd H2 e (.lst []) = H3 at *
      -- a new run at the end
      have fresh : runsA (ts.take (i + 1)) = runsA (ts.take i) ++ [(t, t)] → tyV K "list" (.ref l) H3 ∧ (2 ≤ sizeLine ∧ ∀ p, H3 p = none → ∃ xs, upd H3 p (.tup [.int (t : Nat), .int (t : Nat)]) l = some (.lst xs) ∧ xs.length < sizeLine ∧
          IRu ql ts H (i + 1) [some (.ref ql), some (.ref l), some (.int (t : Nat))] (upd (upd H3 p (.tup [.int (t : Nat), .int (t : Nat)])) l (.lst (xs ++ [.ref p])))) := by
        intro er
        refine ⟨tyV_lst hl2, by decide, fun p np => ⟨_, (same_new np) _ _ hl2, line_lt (by rw [List.length_map]; omega), ?_⟩⟩
        have npl : p ≠ l := fun z => by rw [z, hl2] at np; cases np
        refine ⟨l, as ++ [p], _, rfl, nl, same_mut (s2.trans (same_new np)) nl, by rw [upd_same]; simp, ?_, by simp; omega⟩
        rw [er]
        refine (hE2.imp fun a x h => ?_).snoc ?_
        · unfold PairAt at h ⊢
          rw [upd_ne (ne_of h hl2 (by intro z; cases z))]
          exact (same_new np) _ _ h
        · unfold PairAt
          rw [upd_ne npl]
          exact upd_same
      by_cases hne : runsA (ts.take i) = []
      · refine ⟨false, by rw [hne]; rfl, ?_⟩
        rw [if_neg Bool.false_ne_true]
        exact fresh (by rw [runs_step ht, hne]; rfl)
      · refine ⟨true, by cases q : runsA (ts.take i) with | nil => exact absurd q hne | cons a b => rfl, ?_⟩
        rw [if_pos rfl]
        obtain ⟨R, x, hR⟩ := last_split hne
        rw [hR] at hE2
        obtain ⟨bs, b, rfl, hEb, hb⟩ := each_snoc_inv hE2
        have ex2 : (bs ++ [b]).map V.ref = bs.map V.ref ++ [.ref b] := by simp
        rw [ex2] at hl2
        refine ⟨_, SqL.of hl2, _, at_last, b, rfl, _, SqT.of hb, _, atI_nat (j := 1) rfl, scal_ii.mpr True.intro, ?_⟩
        by_cases hc : V.int ((x.2 : Nat) : Int) = V.int ((t : Nat) - 1)
        · rw [if_pos hc]
          have hc' : ((x.2 : Nat) : Int) = (t : Nat) - 1 := by injection hc
          have er : runsA (ts.take (i + 1)) = R ++ [(x.1, t)] := by
            rw [runs_step ht, hR]
            unfold runA1
            rw [List.getLast?_concat]
            show (if ((x.2 : Nat) : Int) = (t : Nat) - 1 then _ else _) = _
            rw [if_pos hc', List.dropLast_concat]
          refine ⟨_, SqL.of hl2, fun c1 n1 => ?_⟩
          rw [cut_last]
          have t1 := same_new (o := .lst (bs.map V.ref)) n1
          refine ⟨_, SqL.of (t1 _ _ hl2), _, at_last, b, rfl, _, SqT.of (t1 _ _ hb), _, atI_nat (j := 0) rfl, by decide, fun c2 n2 => ⟨by decide, fun c3 n3 => ?_⟩⟩
          have t2 := same_new (o := .tup [.int (x.1 : Nat), .int (t : Nat)]) n2
          have t3 := same_new (o := .lst [.ref c2]) n3
          refine ⟨_, t3 _ _ (t2 _ _ upd_same), _, upd_same, line_of (by simp at hal ⊢; omega), fun c4 n4 => ?_⟩
          have t4 := same_new (o := .lst (bs.map V.ref ++ [.ref c2])) n4
          have t5 := ((t1.trans t2).trans t3).trans t4
          refine ⟨c4, bs ++ [c2], _, rfl, (s2.trans ((t1.trans t2).trans t3)).free n4, s2.trans t5, by rw [upd_same]; simp, ?_, by simp at hlen ⊢; omega⟩
          rw [er]
          exact (hEb.imp fun a y h => t5 _ _ h).snoc (t4 _ _ (t3 _ _ upd_same))
        · rw [if_neg hc]
          rw [← ex2] at hl2
          refine fresh ?_
          rw [runs_step ht, hR]
          unfold runA1
          rw [List.getLast?_concat]
          show (if ((x.2 : Nat) : Int) = (t : Nat) - 1 then _ else _) = _
          rw [if_neg (fun z => hc (by rw [z]))]
    · rintro σ H1 ⟨l, as, v, rfl, nl, s1, hl1, hE, _⟩
      walk_at "rd"
      rw [List.length_map, List.take_length] at hE
      exact k l as H1 s1 nl hl1 hE
end

end Wv
end WvR2_
section WvR3_
set_option Elab.async false
set_option linter.all false
set_option maxRecDepth 100000
set_option maxHeartbeats 4000000
namespace Wv
open PySem L2
open SX (S S_len S_inj)
local macro_rules | `(tactic| walk_at "rd") => `(tactic| (try simp only [tVar, tC, tB, tAnd, tOr, tNot, tAndV, tOrV, tNotV, tIf, tNext, tSeq, tBreak, tCont, tDrop, tRet, tRetN, tIfS, gName, gNil, gCons, gTup, gSub, tAsg, tPar, tAug, tOp, tUn, rI, rI0, rU, rEq, rNe, tTest, tFld, tNil, tCons, tTup, tLst, tCB, tNoPart, tPart, tSl, rIxL, rIxT, rIxS, rSlL, rSlS, tBM0, tBM, rAppend, rExtend, rCat, rRep, rSetL, tM0, tM1, tCall, tMeth, tMake, sFld, sFldAug, rAdd, rSub, ipI, tBM0,
  scal_ss, scal_ii, scal_bb, scal_ns, scal_sn, scal_nn, tyV_str, L2.start, List.map_cons, List.map_nil, List.length_cons, List.length_nil, List.replicate, List.cons_append, List.nil_append, List.append_nil, List.getElem?_cons_zero, List.getElem?_cons_succ, List.set_cons_zero, List.set_cons_succ, Nat.reduceAdd, Nat.reduceSub, Nat.zero_add, Nat.sub_self, Nat.add_one_sub_one,
  Option.some.injEq, exists_eq_left, exists_eq_left', exists_eq', exists_eq, V.int.injEq, V.str.injEq, V.ref.injEq, V.bl.injEq, reduceCtorEq, List.cons.injEq, and_true, true_and, exists_and_left, exists_and_right, and_assoc, decide_true, decide_false, if_true, if_false, ite_true, ite_false, Bool.false_eq_true, Bool.true_eq_false, eq_self_iff_true, cx_K, nox_K, tMkSyn, tMkChk, tYes, bne, ne_eq, not_false_eq_true, not_true_eq_false, Bool.not_true, Bool.not_false, decide_eq_true_eq, Bool.not_eq_true', decide_eq_false_iff_not]))
/-! ### a plan of the law and its text -/
open LamX
abbrev rJ (K : PySem.W.Frag) : V → List V → Hp → VK → Prop := fun x xs H Q => ∃ a p, ∃ ys : List Str, x = .str a ∧ xs = [.ref p] ∧ (SqL K H p (ys.map V.str) ∨ SqT K H p (ys.map V.str)) ∧
  (ys.map (·.length)).sum + ys.length * a.length ≤ 16777216 ∧ Q (.str (Txt.join a ys)) H
structure WPlan where
  len : Nat
  most : Nat
  names : List (List Nat)
  ranks : List Nat
  starts : List Tri
  paused : List Nat
structure GoodPlan (p : WPlan) : Prop where
  ln : p.len ≤ 60
  mo : p.most ≤ 100
  nl : p.names.length ≤ 8
  nm : ∀ n ∈ p.names, n.length ≤ 8
  rl : p.ranks.length ≤ 8
  rk : ∀ v ∈ p.ranks, v < p.names.length
  sl : p.starts.length ≤ 20
  st : ∀ x ∈ p.starts, x.1 ≤ 100 ∧ x.2.1 < p.names.length ∧ x.2.2 ≤ 100
  ql : p.paused.length ≤ 60
  qk : ∀ t ∈ p.paused, t ≤ 100
structure PlanAt (H : Hp) (pl : Addr) (p : WPlan) : Prop where
  ex : ∃ (na ra sa qa : Addr) (as : List Addr), H pl = some (.tup [.int (p.len : Nat), .int (p.most : Nat), .ref na, .ref ra, .ref sa, .ref qa]) ∧ H na = some (.tup (p.names.map fun n => V.str (S n))) ∧
    H ra = some (.lst (p.ranks.map fun v => V.int (v : Nat))) ∧ H sa = some (.lst (as.map V.ref)) ∧ Each (TriAt H) as p.starts ∧ H qa = some (.lst (p.paused.map fun v => V.int (v : Nat)))
def strR (r : List (List Nat)) : List V := r.map fun z => V.str (S z)
def RowL (H : Hp) (a : Addr) (r : List (List Nat)) : Prop := H a = some (.lst (strR r))
def LinesAt (H : Hp) (q : Addr) (rows : List (List (List Nat))) : Prop := ∃ as : List Addr, H q = some (.lst (as.map V.ref)) ∧ Each (RowL H) as rows
theorem rowl_mono {H H' : Hp} {a : Addr} {r : List (List Nat)} (h : RowL H a r) (s : Same H H') : RowL H' a r := s _ _ h
theorem lines_mono {H H' : Hp} {q : Addr} {rows : List (List (List Nat))} (h : LinesAt H q rows) (s : Same H H') : LinesAt H' q rows := by
  obtain ⟨as, h1, h2⟩ := h
  exact ⟨as, s _ _ h1, h2.imp fun _ _ h => rowl_mono h s⟩
def nmP (p : WPlan) (v : Nat) : List Nat := p.names.getD v []
def rowsP (p : WPlan) : List (List (List Nat)) := [[roundK, numS p.len], [openK, numS p.most], [valvesK] ++ p.names] ++ (if p.ranks = List.range p.names.length then [] else [[rankK] ++ p.ranks.map (nmP p)]) ++
  p.starts.map (fun x => [startK, nmP p x.2.1, numS x.1, forK, numS x.2.2]) ++ (runsA p.paused).map (fun r => [pauseK, numS r.1, numS r.2])
def textP (p : WPlan) : List Nat := TL.joinL [10] ((rowsP p).map fun r => TL.joinL [32] r ++ [59])
def rows0 (p : WPlan) : List (List (List Nat)) := [[roundK, numS p.len], [openK, numS p.most], [valvesK] ++ p.names]
def rows1 (p : WPlan) : List (List (List Nat)) := rows0 p ++ (if p.ranks = List.range p.names.length then [] else [[rankK] ++ p.ranks.map (nmP p)])
def rows2 (p : WPlan) : List (List (List Nat)) := rows1 p ++ p.starts.map (fun x => [startK, nmP p x.2.1, numS x.1, forK, numS x.2.2])
theorem rowsP_eq (p : WPlan) : rowsP p = rows2 p ++ (runsA p.paused).map (fun r => [pauseK, numS r.1, numS r.2]) := rfl
def sgT (pl : Addr) (p : WPlan) (na ra sa qa : Addr) (q : Option V) : L2.St := [some (.ref pl), some (.int (p.len : Nat)), some (.int (p.most : Nat)), some (.ref na), some (.ref ra), some (.ref sa), some (.ref qa), q, none, none, none, none, none, none, none]
theorem row_ne {as : List Addr} {r : List (List Nat)} (h : as ≠ []) : HO.lst (strR r) ≠ HO.lst (as.map V.ref) := by
  cases as with
  | nil => exact absurd rfl h
  | cons a as => cases r with
    | nil => intro z; cases z
    | cons x r => intro z; cases z
theorem nmP_get {p : WPlan} {v : Nat} (h : v < p.names.length) : (p.names.map fun n => V.str (S n))[v]? = some (.str (S (nmP p v))) := by
  rw [List.getElem?_map, List.getElem?_eq_getElem h, nmP, List.getD_eq_getElem?_getD, List.getElem?_eq_getElem h]
  rfl
theorem rows1_len (p : WPlan) : (rows1 p).length ≤ 4 := by
  unfold rows1
  rw [List.length_append]
  split <;> simp [rows0]
theorem each_app {α : Type} {R : Addr → α → Prop} {as bs : List Addr} {xs ys : List α} (h : Each R as xs) (g : Each R bs ys) : Each R (as ++ bs) (xs ++ ys) := by
  refine ⟨by rw [List.length_append, List.length_append, h.1, g.1], fun i a t ha ht => ?_⟩
  by_cases hi : i < as.length
  · rw [List.getElem?_append_left hi] at ha
    rw [List.getElem?_append_left (by rw [← h.1]; exact hi)] at ht
    exact h.2 i a t ha ht
  · rw [List.getElem?_append_right (by omega)] at ha
    rw [List.getElem?_append_right (by rw [← h.1]; omega), ← h.1] at ht
    exact g.2 _ a t ha ht
theorem runsA_go : ∀ (ts : List Nat) (acc : List (Nat × Nat)), (∀ t ∈ ts, t ≤ 100) → (∀ r ∈ acc, r.1 ≤ 100 ∧ r.2 ≤ 100) → (ts.foldl runA1 acc).length ≤ acc.length + ts.length ∧ ∀ r ∈ ts.foldl runA1 acc, r.1 ≤ 100 ∧ r.2 ≤ 100
  | [], acc, _, h => ⟨Nat.le_refl _, h⟩
  | t :: ts, acc, ht, h => by
    have h1 := ht t (List.mem_cons_self ..)
    have key : (runA1 acc t).length ≤ acc.length + 1 ∧ ∀ r ∈ runA1 acc t, r.1 ≤ 100 ∧ r.2 ≤ 100 := by
      unfold runA1
      cases hl : acc.getLast? with
      | none => exact ⟨by simp, fun r hr => by obtain rfl := List.mem_singleton.mp hr; exact ⟨h1, h1⟩⟩
      | some x =>
        have hx := h x (List.mem_of_getLast? hl)
        dsimp only
        split
        · refine ⟨by rw [List.length_append, List.length_dropLast, List.length_singleton]; omega, fun r hr => ?_⟩
          rcases List.mem_append.mp hr with hr | hr
          · exact h r (List.dropLast_subset _ hr)
          · obtain rfl := List.mem_singleton.mp hr
            exact ⟨hx.1, h1⟩
        · refine ⟨by simp, fun r hr => ?_⟩
          rcases List.mem_append.mp hr with hr | hr
          · exact h r hr
          · obtain rfl := List.mem_singleton.mp hr
            exact ⟨h1, h1⟩
    obtain ⟨e1, e2⟩ := runsA_go ts (runA1 acc t) (fun u hu => ht u (List.mem_cons_of_mem _ hu)) key.2
    exact ⟨by rw [List.foldl_cons, List.length_cons]; omega, e2⟩
theorem runsA_le (ts : List Nat) (h : ∀ t ∈ ts, t ≤ 100) : (runsA ts).length ≤ ts.length ∧ ∀ r ∈ runsA ts, r.1 ≤ 100 ∧ r.2 ≤ 100 := by
  obtain ⟨a, b⟩ := runsA_go ts [] h (fun r hr => by cases hr)
  exact ⟨Nat.le_trans a (Nat.le_of_eq (Nat.zero_add _)), b⟩
theorem rows2_len {p : WPlan} (hG : GoodPlan p) : (rows2 p).length ≤ 24 := by
  have := rows1_len p
  have := hG.sl
  unfold rows2
  rw [List.length_append, List.length_map]
  omega
theorem rowsP_len {p : WPlan} (hG : GoodPlan p) : (rowsP p).length ≤ 84 := by
  have := rows2_len hG
  have := hG.ql
  have := (runsA_le p.paused hG.qk).1
  rw [rowsP_eq, List.length_append, List.length_map]
  omega
theorem numS_len {n : Nat} (h : n ≤ 1000000) : (numS n).length ≤ 100 := by
  have h1 := toS_le (n := n) h
  rw [S_num, S_len] at h1
  omega
theorem nmP_len {p : WPlan} (hG : GoodPlan p) {v : Nat} (h : v < p.names.length) : (nmP p v).length ≤ 100 := by
  rw [nmP, List.getD_eq_getElem?_getD, List.getElem?_eq_getElem h]
  exact Nat.le_trans (hG.nm _ (List.getElem_mem h)) (by decide)
theorem rowsP_le {p : WPlan} (hG : GoodPlan p) : ∀ r ∈ rowsP p, r.length ≤ 9 ∧ (r.map List.length).sum ≤ 900 := by
  have key : ∀ r ∈ rowsP p, r.length ≤ 9 ∧ ∀ x ∈ r, x.length ≤ 100 := by
    intro r hr
    unfold rowsP at hr
    rcases List.mem_append.mp hr with hr | hr
    · rcases List.mem_append.mp hr with hr | hr
      · rcases List.mem_append.mp hr with hr | hr
        · simp only [List.mem_cons, List.not_mem_nil, or_false] at hr
          rcases hr with rfl | rfl | rfl
          · refine ⟨by simp, fun x hx => ?_⟩
            simp only [List.mem_cons, List.not_mem_nil, or_false] at hx
            rcases hx with rfl | rfl
            · decide
            · exact numS_len (Nat.le_trans hG.ln (by decide))
          · refine ⟨by simp, fun x hx => ?_⟩
            simp only [List.mem_cons, List.not_mem_nil, or_false] at hx
            rcases hx with rfl | rfl
            · decide
            · exact numS_len (Nat.le_trans hG.mo (by decide))
          · refine ⟨by have := hG.nl; simp; omega, fun x hx => ?_⟩
            rcases List.mem_append.mp hx with hx | hx
            · obtain rfl := List.mem_singleton.mp hx
              decide
            · exact Nat.le_trans (hG.nm x hx) (by decide)
        · split at hr
          · cases hr
          · obtain rfl := List.mem_singleton.mp hr
            refine ⟨by have := hG.rl; simp; omega, fun x hx => ?_⟩
            rcases List.mem_append.mp hx with hx | hx
            · obtain rfl := List.mem_singleton.mp hx
              decide
            · obtain ⟨v, hv, rfl⟩ := List.mem_map.mp hx
              exact nmP_len hG (hG.rk v hv)
      · obtain ⟨y, hy, rfl⟩ := List.mem_map.mp hr
        obtain ⟨b1, b2, b3⟩ := hG.st y hy
        refine ⟨by simp, fun x hx => ?_⟩
        simp only [List.mem_cons, List.not_mem_nil, or_false] at hx
        rcases hx with rfl | rfl | rfl | rfl | rfl
        · decide
        · exact nmP_len hG b2
        · exact numS_len (by omega)
        · decide
        · exact numS_len (by omega)
    · obtain ⟨y, hy, rfl⟩ := List.mem_map.mp hr
      obtain ⟨b1, b2⟩ := (runsA_le p.paused hG.qk).2 y hy
      refine ⟨by simp, fun x hx => ?_⟩
      simp only [List.mem_cons, List.not_mem_nil, or_false] at hx
      rcases hx with rfl | rfl | rfl
      · decide
      · exact numS_len (by omega)
      · exact numS_len (by omega)
  intro r hr
  obtain ⟨k1, k2⟩ := key r hr
  have := sum_le k2
  exact ⟨k1, by omega⟩
/-- a suite is cut behind its first statement -/
theorem seq_cut {a b : TS} {D : Ends} {σ : L2.St} {H : Hp} (C : L2.St → Hp → Prop) (h1 : ∀ J : L2.St → Hp → Prop, (∀ σ' H', C σ' H' → J σ' H') → a { D with nx := J } σ H) (h2 : ∀ σ' H', C σ' H' → b D σ' H') : tSeq a b D σ H := h1 (b D) h2
/-- a comprehension whose elements are new lists -/
theorem lc_rows {K : PySem.W.Frag} {l D : Addr} {xs : List V} {rs : List (List (List Nat))} {g : TG} {te : TE} {vs : List Nat} {σ : L2.St} {H : Hp} {Qd : Hp → Prop} (hD : H D = none) (hl : H l = some (.lst xs)) (hy : rs.length = xs.length) (hz : xs.length ≤ 1000)
    (he : ∀ (i : Nat) (x : V) (r : List (List Nat)) (H' : Hp), xs[i]? = some x → rs[i]? = some r → Same H H' → ∀ k : VK, (∀ a H'', Same H' H'' → H' a = none → RowL H'' a r → k (.ref a) H'') → g x (wipe σ vs) H' fun σ2 H2 => wipe σ2 vs = wipe σ vs ∧ te σ2 H2 k)
    (hq : ∀ H', Same H H' → LinesAt H' D rs → Qd H') :
    ∃ W : Nat → Nat → Hp → Prop, (∃ m, W 0 m (upd H D (.lst []))) ∧ ∀ i m H, W i m H →
      ((Itl K l).stop i H ∧ Qd H) ∨ ((Itl K l).go i H ∧ ∃ Nx : Hp → Prop, (∀ H', Nx H' → ∃ m', m' < m ∧ W (i + 1) m' H') ∧ ∀ x H', (Itl K l).yld i H x H' → g x (wipe σ vs) H' fun σ2 H2 => wipe σ2 vs = wipe σ vs ∧ tYes σ2 H2 fun b H3 =>
        if b = true then te σ2 H3 fun y H4 => ∃ acc, H4 D = some (.lst acc) ∧ acc.length < sizeLine ∧ Nx (upd H4 D (.lst (acc ++ [y]))) else Nx H3) := by
  refine lc_list (xs := xs) (fun i H' => ∃ as : List Addr, Same H H' ∧ H' D = some (.lst (as.map V.ref)) ∧ Each (fun a r => a ≠ D ∧ RowL H' a r) as (rs.take i)) ⟨[], same_new hD, upd_same, Each.nil⟩ (fun i H' _ e => ?_) (fun i x H' hx e => ?_) (fun H' e => ?_)
  · obtain ⟨_, s, _⟩ := e
    exact SqL.of (s _ _ hl)
  · obtain ⟨as, s, hd, hE⟩ := e
    have hi : i < rs.length := by
      rw [hy]
      exact (List.getElem?_eq_some_iff.mp hx).1
    have := he i x rs[i] H' hx (List.getElem?_eq_getElem hi) s (fun y H4 => ∃ acc, H4 D = some (.lst acc) ∧ acc.length < sizeLine ∧ ∃ as : List Addr, Same H (upd H4 D (.lst (acc ++ [y]))) ∧ (upd H4 D (.lst (acc ++ [y]))) D = some (.lst (as.map V.ref)) ∧ Each (fun a r => a ≠ D ∧ RowL (upd H4 D (.lst (acc ++ [y]))) a r) as (rs.take (i + 1))) ?_
    · exact this
    · intro a H4 s4 na hr
      have naD : a ≠ D := fun z => by rw [z, hd] at na; cases na
      have hal : as.length ≤ 1000 := by
        have := hE.1
        rw [List.length_take] at this
        omega
      refine ⟨_, s4 _ _ hd, line_lt (by rw [List.length_map]; omega), as ++ [a], same_mut (s.trans s4) hD, by rw [upd_same]; simp, ?_⟩
      rw [List.take_add_one, List.getElem?_eq_getElem hi]
      refine (hE.imp fun b r hb => ?_).snoc ?_
      · refine ⟨hb.1, ?_⟩
        unfold RowL
        rw [upd_ne hb.1]
        exact s4 _ _ hb.2
      · refine ⟨naD, ?_⟩
        unfold RowL
        rw [upd_ne naD]
        exact hr
  · obtain ⟨as, s, hd, hE⟩ := e
    rw [← hy, List.take_length] at hE
    exact hq H' s ⟨as, hd, hE.imp fun _ _ h => h.2⟩
section
variable {P : Program} {w : World} {K : PySem.W.Frag} {mg : Str → Option Value} {base : Heap}
theorem sc__law_text : FnScope ["_law_plan", "_law_length", "_law_most", "_law_names", "_law_ranks", "_law_starts", "_law_paused", "_law_lines", "_law_k", "_law_tick", "_law_valve", "_law_drops", "_law_first", "_law_last", "_law_line"] ["_law_plan"] (defScope s__law_text) := ⟨rfl, rfl, rfl, by decide +kernel, rfl, by decide +kernel, by decide +kernel⟩
def sp__law_text : Sp := fun vs H Q _ => ∃ (pl : Addr) (p : WPlan), vs = [.ref pl] ∧ PlanAt H pl p ∧ GoodPlan p ∧ ∀ H', Same H H' → Q (.str (S (textP p))) H'
theorem ok__law_text {f : Addr} {fd : FuncData} (F : Fun K "_law_text" "_law_text" s__law_text f fd) (T : TopF w K mg)
    (D__law_runs : DF P w K mg base CX0 1 "_law_runs" ["_law_paused"] sp__law_runs) : FnOk P w K mg base CX0 2 f fd ["_law_plan"] sp__law_text := by
  refine F.ok sc__law_text (fun vs H Q E h => ?_) (fun cdv A outer s H vs Q E hr h => ?_)
  · obtain ⟨pl, p, rfl, _⟩ := h
    rfl
  · obtain ⟨pl, p, rfl, hP, hG, k⟩ := h
    refine ⟨_, (pss_cons (ps_asg (pv 0) (pg_tup (by rfl) (pgs_cons (pg_name (i := 1) sc__law_text.nd rfl (Or.inl rfl)) (pgs_cons (pg_name (i := 2) sc__law_text.nd rfl (Or.inl rfl)) (pgs_cons (pg_name (i := 3) sc__law_text.nd rfl (Or.inr rfl)) (pgs_cons (pg_name (i := 4) sc__law_text.nd rfl (Or.inl rfl)) (pgs_cons (pg_name (i := 5) sc__law_text.nd rfl (Or.inl rfl)) (pgs_cons (pg_name (i := 6) sc__law_text.nd rfl (Or.inl rfl)) pgs_nil))))))))
      (pss_cons (ps_set (i := 7) sc__law_text.nd rfl (Or.inl rfl) (pe_lst (pa_cons (pe_lst (pa_cons pe_str (pa_cons (pe_callTy call_str_int (by rfl) T.z_str (by decide +kernel) (pa_cons (pv 1) pa_nil)) pa_nil))) (pa_cons (pe_lst (pa_cons pe_str (pa_cons (pe_callTy call_str_int (by rfl) T.z_str (by decide +kernel) (pa_cons (pv 2) pa_nil)) pa_nil))) (pa_cons (pe_op op_cat (pe_lst (pa_cons pe_str pa_nil)) (pe_callTy call_list_of (by rfl) T.z_list (by decide +kernel) (pa_cons (pv 3) pa_nil))) pa_nil)))))
      (pss_cons (ps_if (pt_cmpR (op_neD hr.units) (pv 4) (pe_listRg rfl (by rfl) T.z_list (prg_1 (by rfl) T.z_range (pe_callB call_len_seq (by rfl) T.z_len (by decide +kernel) (pa_cons (pv 3) pa_nil)))) (nomark _)) (pss_one (ps_expr (pe_bm PySem.F.plainAttrs_list PySem.F.slot_list_append PySem.F.type_list_append mt_append (pv 7) (pa_cons (pe_op op_cat (pe_lst (pa_cons pe_str pa_nil)) (pe_lc (own := [("_law_k", 8)]) (g := gName 8) (tt := tYes) (te := (tOp (rIxT K) (tVar 3) (tVar 8))) rfl sc__law_text.nd (pi_list (pv 4)) (blkOk_by (N := ["_law_plan", "_law_length", "_law_most", "_law_names", "_law_ranks", "_law_starts", "_law_paused", "_law_lines", "_law_k", "_law_tick", "_law_valve", "_law_drops", "_law_first", "_law_last", "_law_line"]) (sc := defScope s__law_text) (by decide +kernel)) (fun _ _ _ _ _ => (pg_name (i := 8) sc__law_text.nd rfl (Or.inl rfl))) (fun _ _ _ _ _ => pts_nil) (fun _ _ _ _ _ => (pe_ix ix_tup (pv 3) (pv 8) (fun _ _ => rfl))))) pa_nil)))) pss_nil)
      (pss_cons (ps_set (i := 7) sc__law_text.nd rfl (Or.inl rfl) (pe_op op_cat (pv 7) (pe_lc (own := [("_law_tick", 9), ("_law_valve", 10), ("_law_drops", 11)]) (g := gTup K 3 (gCons (gName 9) (gCons (gName 10) (gCons (gName 11) gNil)))) (tt := tYes) (te := (tLst (tCons (tC (.str "start")) (tCons (tOp (rIxT K) (tVar 3) (tVar 10)) (tCons (tCB _ (tCons (tVar 9) tNil)) (tCons (tC (.str "for")) (tCons (tCB _ (tCons (tVar 11) tNil)) tNil))))))) rfl sc__law_text.nd (pi_list (pv 5)) (blkOk_by (N := ["_law_plan", "_law_length", "_law_most", "_law_names", "_law_ranks", "_law_starts", "_law_paused", "_law_lines", "_law_k", "_law_tick", "_law_valve", "_law_drops", "_law_first", "_law_last", "_law_line"]) (sc := defScope s__law_text) (by decide +kernel)) (fun _ _ _ _ _ => (pg_tup (by rfl) (pgs_cons (pg_name (i := 9) sc__law_text.nd rfl (Or.inl rfl)) (pgs_cons (pg_name (i := 10) sc__law_text.nd rfl (Or.inl rfl)) (pgs_cons (pg_name (i := 11) sc__law_text.nd rfl (Or.inl rfl)) pgs_nil))))) (fun _ _ _ _ _ => pts_nil) (fun _ _ _ _ _ => (pe_lst (pa_cons pe_str (pa_cons (pe_ix ix_tup (pv 3) (pv 10) (fun _ _ => rfl)) (pa_cons (pe_callTy call_str_int (by rfl) T.z_str (by decide +kernel) (pa_cons (pv 9) pa_nil)) (pa_cons pe_str (pa_cons (pe_callTy call_str_int (by rfl) T.z_str (by decide +kernel) (pa_cons (pv 11) pa_nil)) pa_nil))))))))))
      (pss_cons (ps_set (i := 7) sc__law_text.nd rfl (Or.inl rfl) (pe_op op_cat (pv 7) (pe_lc (own := [("_law_first", 12), ("_law_last", 13)]) (g := gTup K 2 (gCons (gName 12) (gCons (gName 13) gNil))) (tt := tYes) (te := (tLst (tCons (tC (.str "pause")) (tCons (tCB _ (tCons (tVar 12) tNil)) (tCons (tCB _ (tCons (tVar 13) tNil)) tNil))))) rfl sc__law_text.nd (pi_list (pe_call D__law_runs.G (hr.mono (by decide)) rfl D__law_runs.mg D__law_runs.kp D__law_runs.b .nil pass0 (pa_cons (pv 6) pa_nil))) (blkOk_by (N := ["_law_plan", "_law_length", "_law_most", "_law_names", "_law_ranks", "_law_starts", "_law_paused", "_law_lines", "_law_k", "_law_tick", "_law_valve", "_law_drops", "_law_first", "_law_last", "_law_line"]) (sc := defScope s__law_text) (by decide +kernel)) (fun _ _ _ _ _ => (pg_tup (by rfl) (pgs_cons (pg_name (i := 12) sc__law_text.nd rfl (Or.inl rfl)) (pgs_cons (pg_name (i := 13) sc__law_text.nd rfl (Or.inl rfl)) pgs_nil)))) (fun _ _ _ _ _ => pts_nil) (fun _ _ _ _ _ => (pe_lst (pa_cons pe_str (pa_cons (pe_callTy call_str_int (by rfl) T.z_str (by decide +kernel) (pa_cons (pv 12) pa_nil)) (pa_cons (pe_callTy call_str_int (by rfl) T.z_str (by decide +kernel) (pa_cons (pv 13) pa_nil)) pa_nil))))))))
      (pss_one (ps_ret (pe_join pe_str (pe_lc (own := [("_law_line", 14)]) (g := gName 14) (tt := tYes) (te := (tOp rAddS (tM1 (rJ K) (tC (.str " ")) (tVar 14)) (tC (.str ";")))) rfl sc__law_text.nd (pi_list (pv 7)) (blkOk_by (N := ["_law_plan", "_law_length", "_law_most", "_law_names", "_law_ranks", "_law_starts", "_law_paused", "_law_lines", "_law_k", "_law_tick", "_law_valve", "_law_drops", "_law_first", "_law_last", "_law_line"]) (sc := defScope s__law_text) (by decide +kernel)) (fun _ _ _ _ _ => (pg_name (i := 14) sc__law_text.nd rfl (Or.inl rfl))) (fun _ _ _ _ _ => pts_nil) (fun _ _ _ _ _ => (pe_op op_add_str (pe_join pe_str (pv 14)) pe_str))))))))))), ?_⟩
    obtain ⟨na, ra, sa, qa, sas, hpl, hna, hra, hsa, hE, hqa⟩ := id hP.ex
    refine seq_cut (fun σ H' => σ = sgT pl p na ra sa qa none ∧ H' = H) (fun J hJ => ?_) ?_
    · walk_at "rd"
      refine ⟨_, SqT.of hpl, rfl, ?_⟩
      walk_at "rd"
      exact hJ _ _ ⟨rfl, rfl⟩
    rintro _ H0 ⟨rfl, e0⟩
    have e1 := e0.symm
    subst e1
    clear e0
    refine seq_cut (fun σ H' => ∃ q, H q = none ∧ σ = sgT pl p na ra sa qa (some (.ref q)) ∧ Same H H' ∧ LinesAt H' q (rows0 p)) (fun J hJ => ?_) ?_
    · unfold sgT
      walk_at "rd"
      refine ⟨log_le (Nat.le_trans hG.ln (by decide)), by decide, fun a1 n1 => ⟨log_le (Nat.le_trans hG.mo (by decide)), by decide, fun a2 n2 => ⟨by decide, fun a3 n3 => ?_⟩⟩⟩
      have s1 := same_new (o := .lst [V.str "round", V.str (toString ((p.len : Nat) : Int))]) n1
      have s2 := same_new (o := .lst [V.str "open", V.str (toString ((p.most : Nat) : Int))]) n2
      have s3 := same_new (o := .lst [V.str "valves"]) n3
      have r1 : RowL (upd H a1 (.lst [V.str "round", V.str (toString ((p.len : Nat) : Int))])) a1 [roundK, numS p.len] := by
        unfold RowL
        rw [upd_same, str_round, S_num]
        rfl
      have r2 : RowL (upd (upd H a1 (.lst [V.str "round", V.str (toString ((p.len : Nat) : Int))])) a2 (.lst [V.str "open", V.str (toString ((p.most : Nat) : Int))])) a2 [openK, numS p.most] := by
        unfold RowL
        rw [upd_same, str_open, S_num]
        rfl
      have r3 : (upd (upd (upd H a1 (.lst [V.str "round", V.str (toString ((p.len : Nat) : Int))])) a2 (.lst [V.str "open", V.str (toString ((p.most : Nat) : Int))])) a3 (.lst [V.str "valves"])) a3 = some (.lst [V.str "valves"]) := upd_same
      generalize upd H a1 (.lst [V.str "round", V.str (toString ((p.len : Nat) : Int))]) = H1 at *
      generalize upd H1 a2 (.lst [V.str "open", V.str (toString ((p.most : Nat) : Int))]) = H2 at *
      generalize upd H2 a3 (.lst [V.str "valves"]) = H3 at *
      have t3 := (s1.trans s2).trans s3
      refine ⟨_, .inr (SqT.of (t3 _ _ hna)), fun a4 n4 => ?_⟩
      have s4 := same_new (o := .lst (p.names.map fun n => V.str (S n))) n4
      have r4 : (upd H3 a4 (.lst (p.names.map fun n => V.str (S n)))) a4 = some (.lst (p.names.map fun n => V.str (S n))) := upd_same
      generalize upd H3 a4 (.lst (p.names.map fun n => V.str (S n))) = H4 at *
      refine ⟨_, s4 _ _ r3, _, r4, line_of (by have := hG.nl; simp; omega), fun a5 n5 => ?_⟩
      have s5 := same_new (o := .lst ([V.str "valves"] ++ p.names.map fun n => V.str (S n))) n5
      have r5 : RowL (upd H4 a5 (.lst ([V.str "valves"] ++ p.names.map fun n => V.str (S n)))) a5 ([valvesK] ++ p.names) := by
        unfold RowL strR
        rw [upd_same, str_valves, List.map_append]
        rfl
      generalize upd H4 a5 (.lst ([V.str "valves"] ++ p.names.map fun n => V.str (S n))) = H5 at *
      refine ⟨by decide, fun q nq => ?_⟩
      have s6 := same_new (o := .lst [V.ref a1, V.ref a2, V.ref a5]) nq
      have t5 := (t3.trans s4).trans s5
      refine hJ _ _ ⟨q, t5.free nq, rfl, t5.trans s6, [a1, a2, a5], upd_same, ?_⟩
      exact ((Each.nil.snoc (s6 _ _ (s5 _ _ (s4 _ _ (s3 _ _ (s2 _ _ r1)))))).snoc (s6 _ _ (s5 _ _ (s4 _ _ (s3 _ _ r2))))).snoc (s6 _ _ r5)
    rintro _ H1 ⟨q, nq, rfl, s1, hL1⟩
    refine seq_cut (fun σ H' => σ = sgT pl p na ra sa qa (some (.ref q)) ∧ Same H H' ∧ LinesAt H' q (rows1 p)) (fun J hJ => ?_) ?_
    · unfold sgT
      walk_at "rd"
      refine ⟨_, rfl, na, rfl, _, .inr (SqT.of (s1 _ _ hna)), _, rfl, RgOk.of_le (by decide) (by rw [List.length_map]; have := hG.nl; omega) (by decide) (by omega), fun z nz => ?_⟩
      rw [List.length_map, rgV0]
      have sz := same_new (o := .lst ((List.range p.names.length).map fun v => V.int (v : Nat))) nz
      have hz : (upd H1 z (.lst ((List.range p.names.length).map fun v => V.int (v : Nat)))) z = some (.lst ((List.range p.names.length).map fun v => V.int (v : Nat))) := upd_same
      generalize upd H1 z (.lst ((List.range p.names.length).map fun v => V.int (v : Nat))) = H2 at *
      have s2 := s1.trans sz
      refine ⟨_, _, dp_ints (s2 _ _ hra), dp_ints hz, ints_shaped _, ints_shaped _, _, rfl, ?_⟩
      rw [show PyData.eqv (.list (p.ranks.map fun v => PyData.int (v : Nat))) (.list ((List.range p.names.length).map fun v => PyData.int (v : Nat))) = decide (p.ranks = List.range p.names.length) from ints_eqv _ _]
      by_cases hrk : p.ranks = List.range p.names.length
      · rw [if_neg (by rw [decide_eq_true hrk]; decide)]
        refine hJ _ _ ⟨rfl, s2, ?_⟩
        rw [rows1, if_pos hrk, List.append_nil]
        exact lines_mono hL1 sz
      · rw [if_pos (by rw [decide_eq_false hrk]; decide)]
        obtain ⟨as, hq, hEq⟩ := lines_mono hL1 sz
        refine ⟨tyV_lst hq, by decide, fun r nr => ?_⟩
        have sr := same_new (o := .lst [V.str "rank"]) nr
        have hr1 : (upd H2 r (.lst [V.str "rank"])) r = some (.lst [V.str "rank"]) := upd_same
        generalize upd H2 r (.lst [V.str "rank"]) = H3 at *
        have s3 := s2.trans sr
        refine ⟨_, rfl, ra, rfl, ⟨_, SqL.of (s3 _ _ hra)⟩, fun D nD => ?_⟩
        refine lc_map (ys := (p.ranks.map (nmP p)).map fun n => V.str (S n)) nD (s3 _ _ hra) (by simp) (by have := hG.rl; simp; omega) (fun i x y H' k hx hy s6 hk => ?_) ?_
        · rw [List.getElem?_map] at hx
          obtain ⟨v, hv, rfl⟩ := Option.map_eq_some_iff.mp hx
          rw [List.getElem?_map, List.getElem?_map, hv] at hy
          obtain rfl := Option.some.inj hy
          exact ⟨_, rfl, _, rfl, na, _, _, _, rfl, rfl, SqT.of (s6 _ _ (s3 _ _ hna)), atI_nat (nmP_get (hG.rk v (List.mem_of_getElem? hv))), hk⟩
        · have sD := same_new (o := .lst ((p.ranks.map (nmP p)).map fun n => V.str (S n))) nD
          have hD : (upd H3 D (.lst ((p.ranks.map (nmP p)).map fun n => V.str (S n)))) D = some (.lst ((p.ranks.map (nmP p)).map fun n => V.str (S n))) := upd_same
          generalize upd H3 D (.lst ((p.ranks.map (nmP p)).map fun n => V.str (S n))) = H4 at *
          refine ⟨D, rfl, _, sD _ _ hr1, _, hD, line_of (by have := hG.rl; simp; omega), fun e ne => ?_⟩
          have se := same_new (o := .lst ([V.str "rank"] ++ (p.ranks.map (nmP p)).map fun n => V.str (S n))) ne
          have he : RowL (upd H4 e (.lst ([V.str "rank"] ++ (p.ranks.map (nmP p)).map fun n => V.str (S n)))) e ([rankK] ++ p.ranks.map (nmP p)) := by
            unfold RowL strR
            rw [upd_same, str_rank, List.map_append]
            rfl
          generalize upd H4 e (.lst ([V.str "rank"] ++ (p.ranks.map (nmP p)).map fun n => V.str (S n))) = H5 at *
          have s45 := (sr.trans sD).trans se
          have hq5 := s45 _ _ hq
          have has : as.length = 3 := hEq.1
          refine ⟨_, hq5, line_lt (by rw [List.length_map]; omega), hJ _ _ ⟨rfl, same_mut (s2.trans s45) nq, as ++ [e], by rw [upd_same]; simp, ?_⟩⟩
          have hne : as ≠ [] := by
            intro z
            rw [z] at has
            cases has
          rw [rows1, if_neg hrk]
          refine (hEq.imp fun b r hb => ?_).snoc ?_
          · unfold RowL
            rw [upd_ne (ne_of hb hq (row_ne hne))]
            exact s45 _ _ hb
          · unfold RowL
            rw [upd_ne (ne_of he hq5 (row_ne hne))]
            exact he
    rintro _ H2 ⟨rfl, s2, hL2⟩
    refine seq_cut (fun σ H' => ∃ q, H q = none ∧ σ = sgT pl p na ra sa qa (some (.ref q)) ∧ Same H H' ∧ LinesAt H' q (rows2 p)) (fun J hJ => ?_) ?_
    · unfold sgT
      walk_at "rd"
      refine ⟨_, rfl, sa, rfl, ⟨_, SqL.of (s2 _ _ hsa)⟩, fun D nD => ?_⟩
      refine lc_rows (rs := p.starts.map fun x => [startK, nmP p x.2.1, numS x.1, forK, numS x.2.2]) nD (s2 _ _ hsa) (by simp [hE.1]) (by have := hG.sl; have := hE.1; simp; omega) (fun i x r H' hx hr' s6 k' hk => ?_) (fun H4 s4 hL4 => ?_)
      · rw [List.getElem?_map] at hx
        obtain ⟨a, ha, rfl⟩ := Option.map_eq_some_iff.mp hx
        rw [List.getElem?_map] at hr'
        obtain ⟨y, hy, rfl⟩ := Option.map_eq_some_iff.mp hr'
        have ht := s6 _ _ (s2 _ _ (hE.2 i a y ha hy))
        obtain ⟨b1, b2, b3⟩ := hG.st y (List.mem_of_getElem? hy)
        show gTup K 3 _ _ (sgT pl p na ra sa qa (some (.ref q))) H' _
        unfold sgT
        refine ⟨a, _, rfl, SqT.of ht, rfl, ?_⟩
        simp only [vTri]
        walk_at "rd"
        refine ⟨rfl, _, SqT.of (s6 _ _ (s2 _ _ hna)), _, atI_nat (nmP_get b2), log_le (by omega), log_le (by omega), by decide, fun e ne => hk e _ (same_new ne) ne ?_⟩
        unfold RowL strR
        rw [upd_same, str_start, str_for, S_num, S_num]
        rfl
      · obtain ⟨as, hq, hEq⟩ := lines_mono hL2 s4
        obtain ⟨bs, hD, hED⟩ := hL4
        have n1 := hEq.1
        have n2 := hED.1
        have m1 := rows1_len p
        have := hG.sl
        rw [List.length_map] at n2
        refine ⟨D, rfl, _, hq, _, hD, line_of (by simp; omega), fun e ne => ?_⟩
        have se := same_new (o := .lst (as.map V.ref ++ bs.map V.ref)) ne
        refine hJ _ _ ⟨e, (s2.trans s4).free ne, rfl, (s2.trans s4).trans se, as ++ bs, by rw [upd_same, List.map_append], ?_⟩
        exact each_app (hEq.imp fun _ _ h => se _ _ h) (hED.imp fun _ _ h => se _ _ h)
    rintro _ H3 ⟨q2, nq2, rfl, s3, hL3⟩
    obtain ⟨rl, rk⟩ := runsA_le p.paused hG.qk
    refine seq_cut (fun σ H' => ∃ q, H q = none ∧ σ = sgT pl p na ra sa qa (some (.ref q)) ∧ Same H H' ∧ LinesAt H' q (rowsP p)) (fun J hJ => ?_) ?_
    · unfold sgT
      walk_at "rd"
      refine ⟨_, rfl, qa, p.paused, rfl, s3 _ _ hqa, Nat.le_trans hG.ql (by decide), fun u cs H4 s4 nu hu hEu => ⟨u, rfl, ⟨_, SqL.of hu⟩, fun D nD => ?_⟩⟩
      have s34 := s3.trans s4
      have ql := hG.ql
      have ul := hEu.1
      refine lc_rows (rs := (runsA p.paused).map fun r => [pauseK, numS r.1, numS r.2]) nD hu (by simp [hEu.1]) (by simp; omega) (fun i x r H' hx hr' s6 k' hk => ?_) (fun H5 s5 hL5 => ?_)
      · rw [List.getElem?_map] at hx
        obtain ⟨a, ha, rfl⟩ := Option.map_eq_some_iff.mp hx
        rw [List.getElem?_map] at hr'
        obtain ⟨y, hy, rfl⟩ := Option.map_eq_some_iff.mp hr'
        have ht := s6 _ _ (hEu.2 i a y ha hy)
        obtain ⟨b1, b2⟩ := rk y (List.mem_of_getElem? hy)
        show gTup K 2 _ _ (sgT pl p na ra sa qa (some (.ref q2))) H' _
        unfold sgT
        refine ⟨a, _, rfl, SqT.of ht, rfl, ?_⟩
        walk_at "rd"
        refine ⟨rfl, log_le (by omega), log_le (by omega), by decide, fun e ne => hk e _ (same_new ne) ne ?_⟩
        unfold RowL strR
        rw [upd_same, str_pause, S_num, S_num]
        rfl
      · obtain ⟨as, hq, hEq⟩ := lines_mono hL3 (s4.trans s5)
        obtain ⟨bs, hD, hED⟩ := hL5
        have n1 := hEq.1
        have n2 := hED.1
        have m1 := rows2_len hG
        rw [List.length_map] at n2
        refine ⟨D, rfl, _, hq, _, hD, line_of (by simp; omega), fun e ne => ?_⟩
        have se := same_new (o := .lst (as.map V.ref ++ bs.map V.ref)) ne
        refine hJ _ _ ⟨e, (s34.trans s5).free ne, rfl, (s34.trans s5).trans se, as ++ bs, by rw [upd_same, List.map_append], ?_⟩
        rw [rowsP_eq]
        exact each_app (hEq.imp fun _ _ h => se _ _ h) (hED.imp fun _ _ h => se _ _ h)
    rintro _ H4 ⟨q3, nq3, rfl, s4, hL4⟩
    unfold sgT
    walk_at "rd"
    obtain ⟨as, hq, hEq⟩ := hL4
    refine ⟨_, rfl, q3, rfl, ⟨_, SqL.of hq⟩, fun D nD => ?_⟩
    have n1 := hEq.1
    have m1 := rowsP_len hG
    refine lc_map (ys := (rowsP p).map fun r => V.str (S (TL.joinL [32] r ++ [59]))) nD hq (by simp [n1]) (by simp; omega) (fun i x y H' k' hx hy s6 hk => ?_) ?_
    · rw [List.getElem?_map] at hx hy
      obtain ⟨a, ha, rfl⟩ := Option.map_eq_some_iff.mp hx
      obtain ⟨r, hr', rfl⟩ := Option.map_eq_some_iff.mp hy
      have ht := s6 _ _ (hEq.2 i a r ha hr')
      walk_at "rd"
      obtain ⟨b1, b2⟩ := rowsP_le hG r (List.mem_of_getElem? hr')
      refine ⟨S [32], a, r.map S, by rw [str_blank], rfl, .inl (SqL.of (by rw [List.map_map]; exact ht)), ?_, ?_⟩
      · rw [List.map_map, List.length_map, show (List.map ((fun x => Str.length x) ∘ S) r) = r.map List.length from List.map_congr_left fun x _ => S_len .., S_len]
        show _ + _ * 1 ≤ _
        omega
      · rw [join_S]
        refine ⟨_, _, rfl, rfl, ?_, ?_⟩
        · rw [S_len, str_semi, S_len]
          exact line_of (by have := joinL_len [32] r; simp at this ⊢; omega)
        · rw [str_semi, SX.S_cat]
          exact hk
    · have sD := same_new (o := .lst ((rowsP p).map fun r => V.str (S (TL.joinL [32] r ++ [59])))) nD
      have hD : (upd H4 D (.lst ((rowsP p).map fun r => V.str (S (TL.joinL [32] r ++ [59]))))) D = some (.lst ((rowsP p).map fun r => V.str (S (TL.joinL [32] r ++ [59])))) := upd_same
      generalize upd H4 D (.lst ((rowsP p).map fun r => V.str (S (TL.joinL [32] r ++ [59])))) = H5 at *
      refine ⟨D, rfl, ((rowsP p).map fun r => TL.joinL [32] r ++ [59]).map S, .inl (SqL.of (by rw [List.map_map, List.map_map]; exact hD)), ?_, ?_⟩
      · rw [List.map_map, List.length_map, str_lf, S_len, show (List.map ((fun x => Str.length x) ∘ S) ((rowsP p).map fun r => TL.joinL [32] r ++ [59])) = ((rowsP p).map fun r => TL.joinL [32] r ++ [59]).map List.length from List.map_congr_left fun x _ => S_len ..]
        have : (((rowsP p).map fun r => TL.joinL [32] r ++ [59]).map List.length).sum ≤ 1000 * ((rowsP p).map fun r => TL.joinL [32] r ++ [59]).length := sum_le fun l hl => by
          obtain ⟨r, hr1, rfl⟩ := List.mem_map.mp hl
          obtain ⟨b1, b2⟩ := rowsP_le hG r hr1
          have := joinL_len [32] r
          simp at this ⊢
          omega
        rw [List.length_map] at this ⊢
        show _ + _ * 1 ≤ _
        omega
      · rw [str_lf, join_S]
        exact k H5 (s4.trans sD)
end

end Wv
end WvR3_
section WvWD_
set_option Elab.async false
set_option linter.all false
set_option maxRecDepth 100000
set_option maxHeartbeats 4000000
namespace Wv
open PySem L2
open SX (S S_len S_inj)
local macro_rules | `(tactic| walk_at "rd") => `(tactic| (try simp only [tVar, tC, tB, tAnd, tOr, tNot, tAndV, tOrV, tNotV, tIf, tNext, tSeq, tBreak, tCont, tDrop, tRet, tRetN, tIfS, gName, gNil, gCons, gTup, gSub, tAsg, tPar, tAug, tOp, tUn, rI, rI0, rU, rEq, rNe, tTest, tFld, tNil, tCons, tTup, tLst, tCB, tNoPart, tPart, tSl, rIxL, rIxT, rIxS, rSlL, rSlS, tBM0, tBM, rAppend, rExtend, rCat, rRep, rSetL, tM0, tM1, tCall, tMeth, tMake, sFld, sFldAug, rAdd, rSub, ipI, tBM0,
  scal_ss, scal_ii, scal_bb, scal_ns, scal_sn, scal_nn, tyV_str, L2.start, List.map_cons, List.map_nil, List.length_cons, List.length_nil, List.replicate, List.cons_append, List.nil_append, List.append_nil, List.getElem?_cons_zero, List.getElem?_cons_succ, List.set_cons_zero, List.set_cons_succ, Nat.reduceAdd, Nat.reduceSub, Nat.zero_add, Nat.sub_self, Nat.add_one_sub_one,
  Option.some.injEq, exists_eq_left, exists_eq_left', exists_eq', exists_eq, V.int.injEq, V.str.injEq, V.ref.injEq, V.bl.injEq, reduceCtorEq, List.cons.injEq, and_true, true_and, exists_and_left, exists_and_right, and_assoc, decide_true, decide_false, if_true, if_false, ite_true, ite_false, Bool.false_eq_true, Bool.true_eq_false, eq_self_iff_true, cx_K, nox_K, tMkSyn, tMkChk, tYes, bne, ne_eq, not_false_eq_true, not_true_eq_false, Bool.not_true, Bool.not_false, decide_eq_true_eq, Bool.not_eq_true', decide_eq_false_iff_not]))
/-! ### the words of a plan's text -/
open PySem.StrLaws
theorem flat_id {l z : List Nat} {c : Nat} (h : c ∉ l) : l.flatMap (fun k => if k = c then z else [k]) = l := by
  induction l with
  | nil => rfl
  | cons a l ih =>
    rw [List.flatMap_cons, if_neg (fun e => h (by rw [e]; exact List.mem_cons_self ..)), ih fun m => h (List.mem_cons_of_mem _ m)]
    rfl
theorem sep_join (c : Nat) (z : Str) : ∀ parts : List Str, (∀ p ∈ parts, c ∉ p.cps.toList) → (Str.join ⟨#[c]⟩ parts).cps.toList.flatMap (fun k => if k = c then z.cps.toList else [k]) = (Str.join z parts).cps.toList
  | [], _ => rfl
  | [p], h => flat_id (h p (List.mem_singleton.mpr rfl))
  | p :: q :: r, h => by
    have ih := sep_join c z (q :: r) fun a ha => h a (List.mem_cons_of_mem _ ha)
    have hp := flat_id (z := z.cps.toList) (h p (List.mem_cons_self ..))
    show (p ++ ⟨#[c]⟩ ++ Str.join ⟨#[c]⟩ (q :: r)).cps.toList.flatMap _ = (p ++ z ++ Str.join z (q :: r)).cps.toList
    simp only [Str.cps_append, Array.toList_append, List.flatMap_append]
    rw [ih, hp]
    congr 2
    simp
theorem replace_sep (x z : Str) (c : Nat) : (Txt.replace x ⟨#[c]⟩ z).cps.toList = x.cps.toList.flatMap (fun k => if k = c then z.cps.toList else [k]) := by
  rw [replace_one, ← sep_join c z _ (split_free x c), join_split]
/-- ';' set off -/
def semi (l : List Nat) : List Nat := l.flatMap fun k => if k = 59 then [32, 59] else [k]
theorem semi_eq (l : List Nat) : Txt.replace (S l) (S [59]) (S [32, 59]) = S (semi l) := by
  have h := replace_sep (S l) (S [32, 59]) 59
  refine (SX.S_tl _).symm.trans ?_
  rw [show S [59] = (⟨#[59]⟩ : Str) from rfl, h]
  congr 1
def plainC (c : Nat) : Prop := c ∈ letters ∨ c ∈ digits
theorem plain_ns {c : Nat} (h : plainC c) : PySem.Unicode.isSpace c = false ∧ c ≠ 59 ∧ c ≠ 10 := by
  have key : ∀ c ∈ letters ++ digits, PySem.Unicode.isSpace c = false ∧ c ≠ 59 ∧ c ≠ 10 := by decide +kernel
  exact key c (List.mem_append.mpr h)
theorem step_sp {ws : List (List Nat)} {p : List Nat} (h : p ≠ []) : TL.wstep (ws, p) 32 = (ws ++ [p], []) := by
  have hs : PySem.Unicode.isSpace 32 = true := by decide +kernel
  have a : TL.wstep (ws, p) 32 = (if p = [] then (ws, p) else (ws ++ [p], [])) := if_pos hs
  exact a.trans (if_neg h)
theorem fold_row : ∀ (r : List (List Nat)) (ws : List (List Nat)), r ≠ [] → (∀ p ∈ r, p ≠ [] ∧ ∀ c ∈ p, PySem.Unicode.isSpace c = false) → (TL.joinL [32] r ++ [32]).foldl TL.wstep (ws, []) = (ws ++ r, [])
  | [], _, h, _ => absurd rfl h
  | [p], ws, _, h => by
    obtain ⟨h1, h2⟩ := h p (List.mem_singleton.mpr rfl)
    show (p ++ [32]).foldl TL.wstep (ws, []) = _
    rw [List.foldl_append, TL.wfold_word p ws [] h2, List.nil_append]
    exact step_sp h1
  | p :: q :: r, ws, _, h => by
    obtain ⟨h1, h2⟩ := h p (List.mem_cons_self ..)
    show (p ++ ([32] ++ TL.joinL [32] (q :: r)) ++ [32]).foldl TL.wstep (ws, []) = _
    rw [List.append_assoc, List.foldl_append, TL.wfold_word p ws [] h2, List.nil_append, List.append_assoc, List.foldl_append]
    rw [show [32].foldl TL.wstep (ws, p) = (ws ++ [p], []) from step_sp h1, fold_row (q :: r) (ws ++ [p]) (by simp) fun z hz => h z (List.mem_cons_of_mem _ hz), List.append_assoc]
    rfl
def wordsP (rows : List (List (List Nat))) : List (List Nat) := rows.flatMap fun r => r ++ [[59]]
def RowOk (r : List (List Nat)) : Prop := r ≠ [] ∧ ∀ p ∈ r, p ≠ [] ∧ ∀ c ∈ p, plainC c
theorem join_no {r : List (List Nat)} {k : Nat} (hk : k ≠ 32) : (∀ p ∈ r, k ∉ p) → k ∉ TL.joinL [32] r := by
  induction r with
  | nil => intro _ h; cases h
  | cons p r ih =>
    intro h
    have hp := h p (List.mem_cons_self ..)
    have hr := ih fun q hq => h q (List.mem_cons_of_mem _ hq)
    cases r with
    | nil => exact hp
    | cons q r =>
      show k ∉ p ++ ([32] ++ TL.joinL [32] (q :: r))
      simp only [List.mem_append, List.mem_singleton, not_or]
      exact ⟨hp, hk, hr⟩
theorem row_fold {r : List (List Nat)} (ws : List (List Nat)) (h : RowOk r) : (semi (TL.joinL [32] r ++ [59])).foldl TL.wstep (ws, []) = (ws ++ r, [59]) := by
  obtain ⟨h0, h⟩ := h
  have e : semi (TL.joinL [32] r ++ [59]) = (TL.joinL [32] r ++ [32]) ++ [59] := by
    unfold semi
    rw [List.flatMap_append, flat_id (join_no (by decide) fun p hp m => (plain_ns ((h p hp).2 59 m)).2.1 rfl)]
    simp
  rw [e, List.foldl_append, fold_row r ws h0 fun p hp => ⟨(h p hp).1, fun c hc => (plain_ns ((h p hp).2 c hc)).1⟩]
  have hs : PySem.Unicode.isSpace 59 = false := by decide +kernel
  have a : TL.wstep (ws ++ r, []) 59 = (ws ++ r, [] ++ [59]) := if_neg (by rw [hs]; exact Bool.false_ne_true)
  exact a
theorem words_rows : ∀ (rows : List (List (List Nat))) (ws : List (List Nat)), rows ≠ [] → (∀ r ∈ rows, RowOk r) → TL.wfin ((semi (TL.joinL [10] (rows.map fun r => TL.joinL [32] r ++ [59]))).foldl TL.wstep (ws, [])) = ws ++ wordsP rows
  | [], _, h, _ => absurd rfl h
  | [r], ws, _, h => by
    show TL.wfin ((semi (TL.joinL [32] r ++ [59])).foldl TL.wstep (ws, [])) = _
    rw [row_fold ws (h r (List.mem_singleton.mpr rfl))]
    show (ws ++ r) ++ [[59]] = ws ++ ((r ++ [[59]]) ++ [])
    rw [List.append_nil, List.append_assoc]
  | r :: q :: rest, ws, _, h => by
    show TL.wfin ((semi ((TL.joinL [32] r ++ [59]) ++ ([10] ++ TL.joinL [10] ((q :: rest).map fun r => TL.joinL [32] r ++ [59])))).foldl TL.wstep (ws, [])) = _
    rw [show ∀ a b : List Nat, semi (a ++ ([10] ++ b)) = semi a ++ ([10] ++ semi b) from fun a b => by unfold semi; rw [List.flatMap_append, List.flatMap_append]; rfl]
    rw [List.foldl_append, row_fold ws (h r (List.mem_cons_self ..)), List.foldl_append]
    have hs : PySem.Unicode.isSpace 10 = true := by decide +kernel
    have a : TL.wstep (ws ++ r, [59]) 10 = (ws ++ r ++ [[59]], []) := (if_pos hs : TL.wstep (ws ++ r, [59]) 10 = (if [59] = [] then (ws ++ r, [59]) else (ws ++ r ++ [[59]], []))).trans (if_neg (show ¬ ([59] : List Nat) = [] by decide))
    rw [show [10].foldl TL.wstep (ws ++ r, [59]) = (ws ++ r ++ [[59]], []) from a, words_rows (q :: rest) _ (by simp) fun z hz => h z (List.mem_cons_of_mem _ hz)]
    show (ws ++ r ++ [[59]]) ++ wordsP (q :: rest) = ws ++ ((r ++ [[59]]) ++ wordsP (q :: rest))
    simp only [List.append_assoc]
theorem text_words (rows : List (List (List Nat))) (h0 : rows ≠ []) (h : ∀ r ∈ rows, RowOk r) : Txt.words (Txt.replace (S (TL.joinL [10] (rows.map fun r => TL.joinL [32] r ++ [59]))) (S [59]) (S [32, 59])) = (wordsP rows).map S := by
  rw [semi_eq]
  refine TL.map_tl_inj ?_
  rw [SX.map_S_tl, TL.words_tl]
  have := words_rows rows [] h0 h
  rw [List.nil_append] at this
  exact this

end Wv
end WvWD_
section WvXL_
set_option Elab.async false
set_option linter.all false
set_option maxRecDepth 100000
set_option maxHeartbeats 4000000
/-! a faster lexer's mirror, equal to the first -/
namespace Wv
open PySem
def inF (lo hi x : Nat) : Bool := Nat.ble lo x && Nat.ble x hi
theorem run_l (row : List Nat) (c : Nat) : run letters row c = (row.drop c).takeWhile (inF 97 122) := by
  unfold run
  congr 1
  funext x
  unfold letters inF
  rw [Bool.eq_iff_iff, decide_eq_true_iff, List.mem_range'_1, Bool.and_eq_true, Nat.ble_eq, Nat.ble_eq]
  omega
theorem run_d (row : List Nat) (c : Nat) : run digits row c = (row.drop c).takeWhile (inF 48 57) := by
  unfold run
  congr 1
  funext x
  unfold digits inF
  rw [Bool.eq_iff_iff, decide_eq_true_iff, List.mem_range'_1, Bool.and_eq_true, Nat.ble_eq, Nat.ble_eq]
  omega
def tokW (w d : List Nat) (ln c : Nat) : Option WTok := if w ≠ [] ∧ w.length ≤ 8 then some ⟨wordKind w, w, ln, c⟩ else if isNumber d = true then some ⟨numberK, d, ln, c⟩ else none
def tokF (r : List Nat) (ln c : Nat) : Option WTok := match r with
  | [] => none
  | x :: r => bif Nat.beq x 59 then some ⟨[59], [59], ln, c⟩ else tokW ((x :: r).takeWhile (inF 97 122)) ((x :: r).takeWhile (inF 48 57)) ln c
theorem tokF_eq (row : List Nat) (ln c : Nat) : tokAt row ln c = tokF (row.drop c) ln c := by
  unfold tokAt
  rw [run_l, run_d]
  rw [show row[c]? = (row.drop c)[0]? by rw [List.getElem?_drop]; rfl]
  cases row.drop c with
  | nil => rfl
  | cons x r =>
    rw [show (x :: r)[0]? = some x from rfl]
    show _ = bif Nat.beq x 59 then _ else _
    by_cases h : x = 59
    · subst h
      rfl
    · rw [if_neg (fun e => h (Option.some.inj e)), show Nat.beq x 59 = false from by rw [← Bool.not_eq_true, Nat.beq_eq]; exact h]
      rfl
/-- the rest of the row is walked along -/
def rowF (ln : Nat) : Nat → Nat → List Nat → Except (Nat × Nat) (List WTok)
  | 0, _, _ => .ok []
  | _ + 1, _, [] => .ok []
  | n + 1, c, x :: r => bif Nat.beq x 32 then rowF ln n (c + 1) r else
      match tokF (x :: r) ln c with
      | none => .error (ln, c)
      | some t => match rowF ln n (c + t.text.length) ((x :: r).drop t.text.length) with
        | .ok ts => .ok (t :: ts)
        | .error e => .error e
theorem rowF_eq (row : List Nat) (ln : Nat) : ∀ n c, rowFrom row ln n c = rowF ln n c (row.drop c)
  | 0, c => rfl
  | n + 1, c => by
    unfold rowFrom
    by_cases h : c < row.length
    · rw [if_pos h, List.drop_eq_getElem_cons h]
      show _ = bif Nat.beq row[c] 32 then rowF ln n (c + 1) (row.drop (c + 1)) else _
      rw [List.getElem?_eq_getElem h]
      by_cases h2 : row[c] = 32
      · rw [if_pos (congrArg some h2), h2]
        exact rowF_eq row ln n (c + 1)
      · rw [if_neg (fun e => h2 (Option.some.inj e)), show Nat.beq row[c] 32 = false from by rw [← Bool.not_eq_true, Nat.beq_eq]; exact h2, tokF_eq, List.drop_eq_getElem_cons h]
        show _ = match tokF (row[c] :: row.drop (c + 1)) ln c with | none => _ | some t => _
        cases tokF (row[c] :: row.drop (c + 1)) ln c with
        | none => rfl
        | some t =>
          dsimp only
          rw [rowF_eq row ln n (c + t.text.length), ← List.drop_eq_getElem_cons h, List.drop_drop]
          all_goals (cases rowF ln n (c + t.text.length) (List.drop (c + t.text.length) row) <;> rfl)
    · rw [if_neg h, List.drop_eq_nil_of_le (by omega)]
      rfl
def lexF : Nat → List (List Nat) → Except (Nat × Nat) (List WTok)
  | _, [] => .ok []
  | ln, r :: rs => match rowF ln r.length 0 r with
    | .error e => .error e
    | .ok ts => match lexF (ln + 1) rs with
      | .error e => .error e
      | .ok us => .ok (ts ++ us)
theorem lexF_eq : ∀ (rs : List (List Nat)) (ln : Nat), lexFrom ln rs = lexF ln rs
  | [], _ => rfl
  | r :: rs, ln => by
    unfold lexFrom lexF
    rw [show rowToks r ln = rowF ln r.length 0 r from rowF_eq r ln r.length 0, lexF_eq rs (ln + 1)]
    all_goals (
      cases rowF ln r.length 0 r with
      | error e => rfl
      | ok ts => cases lexF (ln + 1) rs <;> rfl)
end Wv
end WvXL_
section WvLX_
set_option Elab.async false
set_option linter.all false
set_option maxRecDepth 100000
set_option maxHeartbeats 4000000
namespace Wv
open PySem L2
/-! ### a text of words with gaps lexes to the words at their places -/
theorem tok_pos {r : List Nat} {ln c : Nat} {t : WTok} (h : tokF r ln c = some t) : 1 ≤ t.text.length := by
  cases r with
  | nil => cases h
  | cons x r =>
    unfold tokF at h
    dsimp only at h
    cases hx : Nat.beq x 59 with
    | true =>
      rw [hx] at h
      obtain rfl := Option.some.inj h
      exact Nat.le_refl _
    | false =>
      rw [hx] at h
      unfold tokW at h
      dsimp only [cond_false] at h
      split at h
      · rename_i hw
        obtain rfl := Option.some.inj h
        exact List.length_pos_iff.mpr hw.1
      · split at h
        · rename_i hn
          obtain rfl := Option.some.inj h
          refine List.length_pos_iff.mpr fun e => ?_
          dsimp only at e
          rw [e] at hn
          revert hn
          decide
        · cases h
theorem rowF_fuel {ln : Nat} : ∀ (k n : Nat) (r : List Nat) (c : Nat), r.length ≤ k → r.length ≤ n → rowF ln n c r = rowF ln k c r
  | 0, n, r, c, h, _ => by
    obtain rfl := List.length_eq_zero_iff.mp (Nat.le_zero.mp h)
    cases n <;> rfl
  | k + 1, 0, r, c, _, h => by
    obtain rfl := List.length_eq_zero_iff.mp (Nat.le_zero.mp h)
    rfl
  | k + 1, n + 1, [], c, _, _ => rfl
  | k + 1, n + 1, x :: r, c, h1, h2 => by
    have h1 : r.length ≤ k := Nat.le_of_succ_le_succ h1
    have h2 : r.length ≤ n := Nat.le_of_succ_le_succ h2
    unfold rowF
    cases Nat.beq x 32 with
    | true => exact rowF_fuel k n r (c + 1) h1 h2
    | false =>
      dsimp only [cond_false]
      cases e : tokF (x :: r) ln c with
      | none => rfl
      | some t =>
        have ht := tok_pos e
        dsimp only
        have hl : ((x :: r).drop t.text.length).length ≤ r.length := by
          rw [List.length_drop, List.length_cons]
          omega
        rw [rowF_fuel k n _ _ (by omega) (by omega)]
theorem rows_nil : rowsOf [] = [[]] := rfl
theorem spl_all {p : List Nat} (h : 10 ∉ p) : rowsOf p = [p] := by
  have := SX.spl_join (c := 10) (sep := []) (parts := [p]) (by simp) (fun q hq => by obtain rfl := List.mem_singleton.mp hq; exact h)
  exact this
theorem spl_lf {p q : List Nat} (h : 10 ∉ p) : rowsOf (p ++ 10 :: q) = p :: rowsOf q := SX.spl_free (sep := [10]) q (by simp) (SX.free_head h)
theorem row_split : ∀ l : List Nat, 10 ∉ l ∨ ∃ p q, l = p ++ 10 :: q ∧ 10 ∉ p
  | [] => .inl (by simp)
  | x :: l => by
    by_cases h : x = 10
    · exact .inr ⟨[], l, by rw [h]; rfl, by simp⟩
    · rcases row_split l with h2 | ⟨p, q, e, h2⟩
      · exact .inl (by simp [Ne.symm h, h2])
      · exact .inr ⟨x :: p, q, by rw [e]; rfl, by simp [Ne.symm h, h2]⟩
theorem rows_lf (l : List Nat) : rowsOf (10 :: l) = [] :: rowsOf l := spl_lf (p := []) (by simp)
theorem rows_app {w : List Nat} (hw : 10 ∉ w) (l : List Nat) : ∃ r rs, rowsOf l = r :: rs ∧ rowsOf (w ++ l) = (w ++ r) :: rs := by
  rcases row_split l with h | ⟨p, q, rfl, h⟩
  · exact ⟨l, [], spl_all h, spl_all (by simp [hw, h])⟩
  · exact ⟨p, rowsOf q, spl_lf h, by rw [← List.append_assoc]; exact spl_lf (by simp [hw, h])⟩
/-- the lexer from a place in a row -/
def LX (ln c : Nat) (l : List Nat) : Except (Nat × Nat) (List WTok) := match rowsOf l with
  | [] => .ok []
  | r :: rs => match rowF ln r.length c r with
    | .error e => .error e
    | .ok ts => match lexF (ln + 1) rs with
      | .error e => .error e
      | .ok us => .ok (ts ++ us)
theorem lex_LX (z : List Nat) : lex z = LX 0 0 z := by
  unfold lex LX
  rw [lexF_eq]
  cases h : rowsOf z with
  | nil => rfl
  | cons r rs => rfl
theorem LX_blank {ln c : Nat} {l : List Nat} : LX ln c (32 :: l) = LX ln (c + 1) l := by
  obtain ⟨r, rs, h1, h2⟩ := rows_app (w := [32]) (by decide) l
  unfold LX
  rw [h1, show 32 :: l = [32] ++ l from rfl, h2]
  rfl
theorem lexF_cons {ln : Nat} {r : List Nat} {rs : List (List Nat)} : lexF ln (r :: rs) = match rowF ln r.length 0 r with | .error e => .error e | .ok ts => match lexF (ln + 1) rs with | .error e => .error e | .ok us => .ok (ts ++ us) := rfl
theorem LX_lf {ln c : Nat} {l : List Nat} : LX ln c (10 :: l) = LX (ln + 1) 0 l := by
  obtain ⟨r, rs, h1, _⟩ := rows_app (w := []) (by decide) l
  unfold LX
  rw [rows_lf, h1]
  show (match lexF (ln + 1) (r :: rs) with | Except.error e => Except.error e | Except.ok us => Except.ok ([] ++ us)) = (match rowF (ln + 1) r.length 0 r with | Except.error e => Except.error e | Except.ok ts => match lexF (ln + 1 + 1) rs with | Except.error e => Except.error e | Except.ok us => Except.ok (ts ++ us))
  rw [lexF_cons]
  cases rowF (ln + 1) r.length 0 r with
  | error e => rfl
  | ok ts => cases lexF (ln + 1 + 1) rs <;> rfl
theorem LX_nil {ln c : Nat} : LX ln c [] = .ok [] := rfl
end Wv
end WvLX_
section WvTX_
set_option Elab.async false
set_option linter.all false
set_option maxRecDepth 100000
set_option maxHeartbeats 4000000
namespace Wv
open PySem L2
open SX (S S_len S_inj)
local macro_rules | `(tactic| walk_at "rd") => `(tactic| (try simp only [tVar, tC, tB, tAnd, tOr, tNot, tAndV, tOrV, tNotV, tIf, tNext, tSeq, tBreak, tCont, tDrop, tRet, tRetN, tIfS, gName, gNil, gCons, gTup, gSub, tAsg, tPar, tAug, tOp, tUn, rI, rI0, rU, rEq, rNe, tTest, tFld, tNil, tCons, tTup, tLst, tCB, tNoPart, tPart, tSl, rIxL, rIxT, rIxS, rSlL, rSlS, tBM0, tBM, rAppend, rExtend, rCat, rRep, rSetL, tM0, tM1, tCall, tMeth, tMake, sFld, sFldAug, rAdd, rSub, ipI, tBM0,
  scal_ss, scal_ii, scal_bb, scal_ns, scal_sn, scal_nn, tyV_str, L2.start, List.map_cons, List.map_nil, List.length_cons, List.length_nil, List.replicate, List.cons_append, List.nil_append, List.append_nil, List.getElem?_cons_zero, List.getElem?_cons_succ, List.set_cons_zero, List.set_cons_succ, Nat.reduceAdd, Nat.reduceSub, Nat.zero_add, Nat.sub_self, Nat.add_one_sub_one,
  Option.some.injEq, exists_eq_left, exists_eq_left', exists_eq', exists_eq, V.int.injEq, V.str.injEq, V.ref.injEq, V.bl.injEq, reduceCtorEq, List.cons.injEq, and_true, true_and, exists_and_left, exists_and_right, and_assoc, decide_true, decide_false, if_true, if_false, ite_true, ite_false, Bool.false_eq_true, Bool.true_eq_false, eq_self_iff_true, cx_K, nox_K, tMkSyn, tMkChk, tYes, bne, ne_eq, not_false_eq_true, not_true_eq_false, Bool.not_true, Bool.not_false, decide_eq_true_eq, Bool.not_eq_true', decide_eq_false_iff_not]))
/-! ### a plan's text read: what the program makes of rows of words -/
open LamX
/-! #### words -/
/-- a word of a plan -/
def OkW (w : List Nat) : Prop := w = [59] ∨ (w ≠ [] ∧ w.length ≤ 8 ∧ ∀ c ∈ w, c ∈ letters) ∨ (isNumber w = true ∧ ∀ c ∈ w, c ∈ digits)
def kindT (w : List Nat) : List Nat := if w = [59] then [59] else if ∀ c ∈ w, c ∈ letters then wordKind w else numberK
theorem lets_in (c : Nat) : c ∈ letters ↔ inF 97 122 c = true := by
  unfold letters inF
  rw [List.mem_range'_1, Bool.and_eq_true, Nat.ble_eq, Nat.ble_eq]
  omega
theorem digs_in (c : Nat) : c ∈ digits ↔ inF 48 57 c = true := by
  unfold digits inF
  rw [List.mem_range'_1, Bool.and_eq_true, Nat.ble_eq, Nat.ble_eq]
  omega
theorem tw_app {p : Nat → Bool} : ∀ {w r : List Nat}, (∀ c ∈ w, p c = true) → (∀ x q, r = x :: q → p x = false) → (w ++ r).takeWhile p = w
  | [], r, _, hr => by
    cases r with
    | nil => rfl
    | cons x q =>
      show (x :: q).takeWhile p = []
      rw [List.takeWhile_cons, hr x q rfl]
      rfl
  | c :: w, r, h, hr => by
    show (c :: (w ++ r)).takeWhile p = c :: w
    rw [List.takeWhile_cons, h c (List.mem_cons_self ..), if_pos rfl, tw_app (fun d hd => h d (List.mem_cons_of_mem _ hd)) hr]
theorem tw_no {p : Nat → Bool} {c : Nat} {l : List Nat} (h : p c = false) : (c :: l).takeWhile p = [] := by
  rw [List.takeWhile_cons, h]
  rfl
/-- what may stand behind a word in its row -/
def Beh (r : List Nat) : Prop := ∀ x q, r = x :: q → x = 32 ∨ x = 59
theorem tokF_word {w r : List Nat} {ln c : Nat} (h : OkW w) (hr : Beh r) : tokF (w ++ r) ln c = some ⟨kindT w, w, ln, c⟩ := by
  rcases h with rfl | ⟨h0, h8, hl⟩ | ⟨hn, hd⟩
  · rfl
  · cases w with
    | nil => exact absurd rfl h0
    | cons x w =>
      have hx := (lets_in x).mp (hl x (List.mem_cons_self ..))
      have hx2 : 97 ≤ x ∧ x ≤ 122 := by
        unfold inF at hx
        rw [Bool.and_eq_true, Nat.ble_eq, Nat.ble_eq] at hx
        exact hx
      show (bif Nat.beq x 59 then _ else tokW ((x :: (w ++ r)).takeWhile (inF 97 122)) ((x :: (w ++ r)).takeWhile (inF 48 57)) ln c) = _
      rw [show Nat.beq x 59 = false from by rw [← Bool.not_eq_true, Nat.beq_eq]; omega, cond_false, show x :: (w ++ r) = (x :: w) ++ r from rfl,
        tw_app (fun d hd => (lets_in d).mp (hl d hd)) (fun y q e => by rcases hr y q e with rfl | rfl <;> rfl)]
      unfold tokW
      rw [if_pos ⟨h0, h8⟩]
      unfold kindT
      rw [if_neg (fun e => by cases e; omega), if_pos hl]
  · cases w with
    | nil => cases hn
    | cons x w =>
      have hx := (digs_in x).mp (hd x (List.mem_cons_self ..))
      have hx2 : 48 ≤ x ∧ x ≤ 57 := by
        unfold inF at hx
        rw [Bool.and_eq_true, Nat.ble_eq, Nat.ble_eq] at hx
        exact hx
      have hxl : inF 97 122 x = false := by
        unfold inF
        rw [Bool.and_eq_false_iff]
        left
        rw [← Bool.not_eq_true, Nat.ble_eq]
        omega
      show (bif Nat.beq x 59 then _ else tokW ((x :: (w ++ r)).takeWhile (inF 97 122)) ((x :: (w ++ r)).takeWhile (inF 48 57)) ln c) = _
      rw [show Nat.beq x 59 = false from by rw [← Bool.not_eq_true, Nat.beq_eq]; omega, cond_false, tw_no hxl, show x :: (w ++ r) = (x :: w) ++ r from rfl,
        tw_app (fun d hd2 => (digs_in d).mp (hd d hd2)) (fun y q e => by rcases hr y q e with rfl | rfl <;> rfl)]
      unfold tokW
      rw [if_neg (fun z => z.1 rfl), if_pos hn]
      unfold kindT
      rw [if_neg (fun e => by cases e; omega), if_neg (fun e => by rw [(lets_in x).mp (e x (List.mem_cons_self ..))] at hxl; cases hxl)]
theorem okW_ne {w : List Nat} (h : OkW w) : w ≠ [] ∧ w.head? ≠ some 32 ∧ 10 ∉ w := by
  rcases h with rfl | ⟨h0, h8, hl⟩ | ⟨hn, hd⟩
  · decide
  · refine ⟨h0, fun e => ?_, fun e => absurd (hl 10 e) (by decide)⟩
    cases w with
    | nil => cases e
    | cons x w =>
      obtain rfl := Option.some.inj e
      exact absurd (hl 32 (List.mem_cons_self ..)) (by decide)
  · refine ⟨fun e => (by rw [e] at hn; cases hn), fun e => ?_, fun e => absurd (hd 10 e) (by decide)⟩
    cases w with
    | nil => cases e
    | cons x w =>
      obtain rfl := Option.some.inj e
      exact absurd (hd 32 (List.mem_cons_self ..)) (by decide)
/-- what may stand behind a word: the end, a blank, a line feed, ';' -/
def Beh2 (l : List Nat) : Prop := ∀ x q, l = x :: q → x = 32 ∨ x = 10 ∨ x = 59
theorem LX_okW {w l : List Nat} {ln c : Nat} (hw : OkW w) (hl : Beh2 l) : LX ln c (w ++ l) = match LX ln (c + w.length) l with | .error e => .error e | .ok ts => .ok (⟨kindT w, w, ln, c⟩ :: ts) := by
  obtain ⟨h0, h1, h2⟩ := okW_ne hw
  obtain ⟨r, rs, e1, e2⟩ := rows_app h2 l
  have hr : Beh r := by
    intro x q e
    subst e
    cases l with
    | nil =>
      rw [rows_nil] at e1
      cases e1
    | cons y l =>
      have hy := hl y l rfl
      by_cases hy10 : y = 10
      · subst hy10
        rw [rows_lf] at e1
        cases e1
      · obtain ⟨r2, rs2, e3, e4⟩ := rows_app (w := [y]) (by simp [Ne.symm hy10]) l
        rw [show y :: l = [y] ++ l from rfl, e4] at e1
        obtain ⟨e5, _⟩ := List.cons.inj e1
        have : y = x := (List.cons.inj e5).1
        omega
  have h3 := tokF_word (ln := ln) (c := c) hw hr
  unfold LX
  rw [e1, e2]
  dsimp only
  cases w with
  | nil => exact absurd rfl h0
  | cons x w =>
    have hx : Nat.beq x 32 = false := by
      rw [← Bool.not_eq_true, Nat.beq_eq]
      exact fun e => h1 (by rw [e]; rfl)
    rw [show ((x :: w) ++ r).length = (w ++ r).length + 1 from rfl]
    rw [show rowF ln ((w ++ r).length + 1) c ((x :: w) ++ r) = (match tokF ((x :: w) ++ r) ln c with | none => Except.error (ln, c) | some t => match rowF ln (w ++ r).length (c + t.text.length) (((x :: w) ++ r).drop t.text.length) with | Except.ok ts => Except.ok (t :: ts) | Except.error e => Except.error e) from by
      show (bif Nat.beq x 32 then _ else _) = _
      rw [hx]
      rfl, h3]
    dsimp only
    rw [List.drop_left, rowF_fuel r.length _ r _ (Nat.le_refl _) (by rw [List.length_append]; omega)]
    cases rowF ln r.length (c + (x :: w).length) r with
    | error e => rfl
    | ok ts => cases lexF (ln + 1) rs <;> rfl
/-! #### a text of gaps and words -/
def GapW (g : List Nat) : Prop := ∀ c ∈ g, c = 32 ∨ c = 10
theorem LX_gaps : ∀ (g : List Nat) (ln c : Nat) (l : List Nat), GapW g → ∃ ln' c', LX ln c (g ++ l) = LX ln' c' l
  | [], ln, c, l, _ => ⟨ln, c, rfl⟩
  | x :: g, ln, c, l, h => by
    rcases h x (List.mem_cons_self ..) with rfl | rfl
    · obtain ⟨a, b, e⟩ := LX_gaps g ln (c + 1) l fun y hy => h y (List.mem_cons_of_mem _ hy)
      exact ⟨a, b, by rw [← e]; exact LX_blank⟩
    · obtain ⟨a, b, e⟩ := LX_gaps g (ln + 1) 0 l fun y hy => h y (List.mem_cons_of_mem _ hy)
      exact ⟨a, b, by rw [← e]; exact LX_lf⟩
def textW : List (List Nat × List Nat) → List Nat
  | [] => []
  | (g, z) :: r => g ++ (z ++ textW r)
/-- each word but ';' has a gap ahead, the first one aside -/
def Gapped : List (List Nat × List Nat) → Prop
  | [] => True
  | (g, z) :: r => GapW g ∧ OkW z ∧ (∀ g2 z2 q, r = (g2, z2) :: q → g2 ≠ [] ∨ z2 = [59]) ∧ Gapped r
theorem beh_text {r : List (List Nat × List Nat)} (h : ∀ g2 z2 q, r = (g2, z2) :: q → g2 ≠ [] ∨ z2 = [59]) (hg : Gapped r) : Beh2 (textW r) := by
  intro x q e
  cases r with
  | nil => cases e
  | cons a r =>
    obtain ⟨g, z⟩ := a
    obtain ⟨h1, h2, _⟩ := hg
    have e : g ++ (z ++ textW r) = x :: q := e
    rcases h g z r rfl with h3 | rfl
    · cases g with
      | nil => exact absurd rfl h3
      | cons y g =>
        have : y = x := (List.cons.inj e).1
        have := h1 y (List.mem_cons_self ..)
        omega
    · cases g with
      | nil =>
        have : 59 = x := (List.cons.inj e).1
        omega
      | cons y g =>
        have : y = x := (List.cons.inj e).1
        have := h1 y (List.mem_cons_self ..)
        omega
/-- tokens of the words ws -/
def Toks (ts : List WTok) (ws : List (List Nat)) : Prop := ts.map (fun t => (t.kind, t.text)) = ws.map fun w => (kindT w, w)
theorem LX_textW : ∀ (gs : List (List Nat × List Nat)) (ln c : Nat), Gapped gs → ∃ ts, LX ln c (textW gs) = .ok ts ∧ Toks ts (gs.map (·.2))
  | [], ln, c, _ => ⟨[], LX_nil, rfl⟩
  | (g, z) :: r, ln, c, h => by
    obtain ⟨h1, h2, h3, h4⟩ := h
    obtain ⟨a, b, e⟩ := LX_gaps g ln c (z ++ textW r) h1
    obtain ⟨ts, e2, ht⟩ := LX_textW r a (b + z.length) h4
    refine ⟨⟨kindT z, z, a, b⟩ :: ts, ?_, ?_⟩
    · show LX ln c (g ++ (z ++ textW r)) = _
      rw [e, LX_okW h2 (beh_text h3 h4), e2]
    · unfold Toks at ht ⊢
      rw [List.map_cons, List.map_cons, List.map_cons, ht]
theorem lex_textW {gs : List (List Nat × List Nat)} (h : Gapped gs) : ∃ ts, lex (textW gs) = .ok ts ∧ Toks ts (gs.map (·.2)) := by
  rw [lex_LX]
  exact LX_textW gs 0 0 h

end Wv
end WvTX_
section WvTY_
set_option Elab.async false
set_option linter.all false
set_option maxRecDepth 100000
set_option maxHeartbeats 4000000
namespace Wv
open PySem L2
open SX (S S_len S_inj)
local macro_rules | `(tactic| walk_at "rd") => `(tactic| (try simp only [tVar, tC, tB, tAnd, tOr, tNot, tAndV, tOrV, tNotV, tIf, tNext, tSeq, tBreak, tCont, tDrop, tRet, tRetN, tIfS, gName, gNil, gCons, gTup, gSub, tAsg, tPar, tAug, tOp, tUn, rI, rI0, rU, rEq, rNe, tTest, tFld, tNil, tCons, tTup, tLst, tCB, tNoPart, tPart, tSl, rIxL, rIxT, rIxS, rSlL, rSlS, tBM0, tBM, rAppend, rExtend, rCat, rRep, rSetL, tM0, tM1, tCall, tMeth, tMake, sFld, sFldAug, rAdd, rSub, ipI, tBM0,
  scal_ss, scal_ii, scal_bb, scal_ns, scal_sn, scal_nn, tyV_str, L2.start, List.map_cons, List.map_nil, List.length_cons, List.length_nil, List.replicate, List.cons_append, List.nil_append, List.append_nil, List.getElem?_cons_zero, List.getElem?_cons_succ, List.set_cons_zero, List.set_cons_succ, Nat.reduceAdd, Nat.reduceSub, Nat.zero_add, Nat.sub_self, Nat.add_one_sub_one,
  Option.some.injEq, exists_eq_left, exists_eq_left', exists_eq', exists_eq, V.int.injEq, V.str.injEq, V.ref.injEq, V.bl.injEq, reduceCtorEq, List.cons.injEq, and_true, true_and, exists_and_left, exists_and_right, and_assoc, decide_true, decide_false, if_true, if_false, ite_true, ite_false, Bool.false_eq_true, Bool.true_eq_false, eq_self_iff_true, cx_K, nox_K, tMkSyn, tMkChk, tYes, bne, ne_eq, not_false_eq_true, not_true_eq_false, Bool.not_true, Bool.not_false, decide_eq_true_eq, Bool.not_eq_true', decide_eq_false_iff_not]))
/-! ### rows of words: parsed -/
open LamX
inductive ARow where
  | round (n : Nat)
  | opn (n : Nat)
  | valves (ns : List (List Nat))
  | rank (ns : List (List Nat))
  | start (nm : List Nat) (t w : Nat)
  | pause (a b : Nat)
def ARow.key : ARow → List Nat
  | .round _ => roundK
  | .opn _ => openK
  | .valves _ => valvesK
  | .rank _ => rankK
  | .start _ _ _ => startK
  | .pause _ _ => pauseK
def ARow.body : ARow → List (List Nat)
  | .round n => [numS n]
  | .opn n => [numS n]
  | .valves ns => ns
  | .rank ns => ns
  | .start nm t w => [nm, numS t, forK, numS w]
  | .pause a b => [numS a, numS b]
def ARow.w (r : ARow) : List (List Nat) := r.key :: r.body
def NameW (w : List Nat) : Prop := w ≠ [] ∧ w.length ≤ 8 ∧ (∀ c ∈ w, c ∈ letters) ∧ w ∉ keywords
def ARow.ok : ARow → Prop
  | .round n => n ≤ 99
  | .opn n => n ≤ 99
  | .valves ns => ns ≠ [] ∧ ∀ x ∈ ns, NameW x
  | .rank ns => ns ≠ [] ∧ ∀ x ∈ ns, NameW x
  | .start nm t w => NameW nm ∧ t ≤ 99 ∧ w ≤ 99
  | .pause a b => a ≤ 99 ∧ b ≤ 99
/-- a statement is that of a row -/
def StmIs (s : WStm) (r : ARow) : Prop := s.key.text = r.key ∧ match r with
  | .round n => s.names = [] ∧ ∃ t, s.numbers = [t] ∧ num t = n
  | .opn n => s.names = [] ∧ ∃ t, s.numbers = [t] ∧ num t = n
  | .valves ns => s.names.map (·.text) = ns
  | .rank ns => s.names.map (·.text) = ns
  | .start nm t w => ∃ a u v, s.names = [a] ∧ a.text = nm ∧ s.numbers = [u, v] ∧ num u = t ∧ num v = w
  | .pause a b => ∃ u v, s.numbers = [u, v] ∧ num u = a ∧ num v = b
def All2 {α β : Type} (R : α → β → Prop) : List α → List β → Prop
  | [], [] => True
  | a :: as, b :: bs => R a b ∧ All2 R as bs
  | _, _ => False
theorem numS_key : (List.range 100).all (fun n => isNumber (numS n) && ((numS n).all (fun c => decide (c ∈ digits)) && (decide (NumText.digitsVal (numS n) = n) && (!((numS n).all fun c => decide (c ∈ letters)) && decide (numS n ≠ [59]))))) = true := by decide +kernel
theorem numS_ok {n : Nat} (h : n ≤ 99) : isNumber (numS n) = true ∧ (∀ c ∈ numS n, c ∈ digits) ∧ NumText.digitsVal (numS n) = n ∧ kindT (numS n) = numberK := by
  have := List.all_eq_true.mp numS_key n (List.mem_range.mpr (by omega))
  simp only [Bool.and_eq_true, decide_eq_true_eq] at this
  obtain ⟨h1, h2, h3, h4, h5⟩ := this
  refine ⟨h1, fun c hc => of_decide_eq_true (List.all_eq_true.mp h2 c hc), h3, ?_⟩
  unfold kindT
  rw [if_neg h5, if_neg]
  intro h6
  rw [Bool.not_eq_true'] at h4
  rw [List.all_eq_true.mpr (fun c hc => decide_eq_true (h6 c hc))] at h4
  cases h4
theorem kw_facts : ∀ k ∈ keywords, kindT k = k ∧ OkW k := by
  intro k hk
  have key : keywords.all (fun k => decide (k ≠ [59]) && (k.all (fun c => decide (c ∈ letters)) && (decide (k ≠ []) && decide (k.length ≤ 8)))) = true := by decide +kernel
  have := List.all_eq_true.mp key k hk
  simp only [Bool.and_eq_true, decide_eq_true_eq] at this
  obtain ⟨h1, h2, h3, h4⟩ := this
  have h2 : ∀ c ∈ k, c ∈ letters := fun c hc => of_decide_eq_true (List.all_eq_true.mp h2 c hc)
  refine ⟨?_, .inr (.inl ⟨h3, h4, h2⟩)⟩
  unfold kindT wordKind
  rw [if_neg h1, if_pos h2, if_pos hk]
theorem name_facts {w : List Nat} (h : NameW w) : kindT w = nameK ∧ OkW w := by
  obtain ⟨h0, h8, hl, hk⟩ := h
  refine ⟨?_, .inr (.inl ⟨h0, h8, hl⟩)⟩
  unfold kindT wordKind
  rw [if_neg (fun e => by rw [e] at hl; exact absurd (hl 59 (List.mem_cons_self ..)) (by decide)), if_pos hl, if_neg hk]
theorem num_facts {n : Nat} (h : n ≤ 99) : kindT (numS n) = numberK ∧ OkW (numS n) := ⟨(numS_ok h).2.2.2, .inr (.inr ⟨(numS_ok h).1, (numS_ok h).2.1⟩)⟩
theorem key_in (r : ARow) : r.key ∈ keywords := by
  have h : roundK ∈ keywords ∧ openK ∈ keywords ∧ valvesK ∈ keywords ∧ rankK ∈ keywords ∧ startK ∈ keywords ∧ pauseK ∈ keywords := by decide
  obtain ⟨h1, h2, h3, h4, h5, h6⟩ := h
  cases r
  · exact h1
  · exact h2
  · exact h3
  · exact h4
  · exact h5
  · exact h6
theorem kind_semi : kindT [59] = [59] := by decide
theorem row_okW {r : ARow} (h : r.ok) : ∀ w ∈ r.w ++ [[59]], OkW w := by
  intro w hw
  rcases List.mem_append.mp hw with hw | hw
  · rcases List.mem_cons.mp hw with rfl | hw
    · exact (kw_facts _ (key_in r)).2
    · cases r with
      | round n => obtain rfl := List.mem_singleton.mp hw; exact (num_facts h).2
      | opn n => obtain rfl := List.mem_singleton.mp hw; exact (num_facts h).2
      | valves ns => exact (name_facts (h.2 w hw)).2
      | rank ns => exact (name_facts (h.2 w hw)).2
      | start nm t v =>
        have hw : w ∈ [nm, numS t, forK, numS v] := hw
        simp only [List.mem_cons, List.not_mem_nil, or_false] at hw
        rcases hw with rfl | rfl | rfl | rfl
        · exact (name_facts h.1).2
        · exact (num_facts h.2.1).2
        · exact (kw_facts forK (by decide)).2
        · exact (num_facts h.2.2).2
      | pause a b =>
        have hw : w ∈ [numS a, numS b] := hw
        simp only [List.mem_cons, List.not_mem_nil, or_false] at hw
        rcases hw with rfl | rfl
        · exact (num_facts h.1).2
        · exact (num_facts h.2).2
  · obtain rfl := List.mem_singleton.mp hw
    exact .inl rfl
/-! #### tokens of rows -/
theorem toks_cons {ts : List WTok} {w : List Nat} {ws : List (List Nat)} (h : Toks ts (w :: ws)) : ∃ t r, ts = t :: r ∧ t.kind = kindT w ∧ t.text = w ∧ Toks r ws := by
  cases ts with
  | nil => cases h
  | cons t r =>
    unfold Toks at h
    rw [List.map_cons, List.map_cons, List.cons.injEq, Prod.mk.injEq] at h
    exact ⟨t, r, rfl, h.1.1, h.1.2, h.2⟩
theorem toks_nil {ts : List WTok} (h : Toks ts []) : ts = [] := by
  unfold Toks at h
  rw [List.map_nil, List.map_eq_nil_iff] at h
  exact h
theorem toks_app {ts : List WTok} {a b : List (List Nat)} (h : Toks ts (a ++ b)) : ∃ x y, ts = x ++ y ∧ Toks x a ∧ Toks y b := by
  unfold Toks at h
  rw [List.map_append, List.map_eq_append_iff] at h
  obtain ⟨x, y, e, h1, h2⟩ := h
  exact ⟨x, y, e, h1, h2⟩
theorem takeN_at {L : Nat} {ts : List WTok} {k : List Nat} {n : Nat} {t : WTok} (h : ts[n]? = some t) (hk : t.kind = k) : takeN L ts k n = .ok (t, n + 1) := by
  unfold takeN
  rw [h]
  dsimp only
  rw [if_pos hk]
theorem app_at {α : Type} {pre x post : List α} {ts : List α} (e : ts = pre ++ (x ++ post)) {i : Nat} {t : α} (h : x[i]? = some t) : ts[pre.length + i]? = some t := by
  obtain ⟨hi, _⟩ := List.getElem?_eq_some_iff.mp h
  rw [e, List.getElem?_append_right (by omega), Nat.add_sub_cancel_left, List.getElem?_append_left hi, h]
theorem names_from {ts : List WTok} {u : WTok} {post : List WTok} (hu : u.kind ≠ nameK) : ∀ (seg : List WTok) (f : Nat) (pre : List WTok), ts = pre ++ (seg ++ u :: post) → (∀ t ∈ seg, t.kind = nameK) → seg.length < f → namesFrom ts f pre.length = seg
  | [], 0, _, _, _, h => absurd h (by simp)
  | [], f + 1, pre, e, _, _ => by
    unfold namesFrom
    have : ts[pre.length]? = some u := by
      rw [e, List.getElem?_append_right (Nat.le_refl _), Nat.sub_self]
      rfl
    rw [this]
    dsimp only
    rw [if_neg hu]
  | t :: seg, 0, _, _, _, h => absurd h (by simp)
  | t :: seg, f + 1, pre, e, hs, hf => by
    unfold namesFrom
    have : ts[pre.length]? = some t := by
      rw [e, List.getElem?_append_right (Nat.le_refl _), Nat.sub_self]
      rfl
    rw [this]
    dsimp only
    rw [if_pos (hs t (List.mem_cons_self ..))]
    have ih := names_from (ts := ts) (post := post) hu seg f (pre ++ [t]) (by rw [e]; simp) (fun x hx => hs x (List.mem_cons_of_mem _ hx)) (by simp at hf; omega)
    rw [List.length_append] at ih
    rw [show pre.length + 1 = pre.length + [t].length from rfl, ih]
theorem toks_names {seg : List WTok} {ns : List (List Nat)} (h : Toks seg ns) (hn : ∀ x ∈ ns, NameW x) : (∀ t ∈ seg, t.kind = nameK) ∧ seg.map (·.text) = ns := by
  induction ns generalizing seg with
  | nil =>
    obtain rfl := toks_nil h
    exact ⟨fun t ht => (by cases ht), rfl⟩
  | cons w ws ih =>
    obtain ⟨t, r, rfl, h1, h2, h3⟩ := toks_cons h
    obtain ⟨i1, i2⟩ := ih h3 fun x hx => hn x (List.mem_cons_of_mem _ hx)
    refine ⟨fun u hu => ?_, by rw [List.map_cons, h2, i2]⟩
    rcases List.mem_cons.mp hu with rfl | hu
    · rw [h1]
      exact (name_facts (hn w (List.mem_cons_self ..))).1
    · exact i1 u hu
theorem num_of {t : WTok} {n : Nat} (h : t.text = numS n) (hn : n ≤ 99) : num t = n := by
  unfold num
  rw [h]
  exact (numS_ok hn).2.2.1
theorem kind_ne : nameK ≠ namesK ∧ numberK ≠ namesK ∧ numberK ≠ nameK ∧ forK ≠ namesK ∧ forK ≠ nameK ∧ forK ≠ numberK ∧ ([59] : List Nat) ≠ nameK := by decide
theorem takeStm_row {L : Nat} {ts pre seg post : List WTok} {r : ARow} (hr : r.ok) (e : ts = pre ++ (seg ++ post)) (hs : Toks seg (r.w ++ [[59]])) :
    ∃ s, takeStm L ts r.key pre.length = .ok (s, pre.length + seg.length) ∧ StmIs s r ∧ ∃ t, ts[pre.length]? = some t ∧ t.kind = r.key := by
  obtain ⟨n1, n2, n3, n4, n5, n6, n7⟩ := kind_ne
  obtain ⟨t0, seg1, rfl, k0, x0, hs1⟩ := toks_cons (show Toks seg (r.key :: (r.body ++ [[59]])) from hs)
  have hkw : r.key ∈ keywords := key_in r
  rw [(kw_facts _ hkw).1] at k0
  have at0 : ts[pre.length]? = some t0 := app_at e (i := 0) rfl
  have h0 : takeN L ts r.key pre.length = .ok (t0, pre.length + 1) := takeN_at at0 k0
  have one : ∀ (n : Nat), n ≤ 99 → r.body = [numS n] → forms r.key = some [numberK] → ∃ t, takeStm L ts r.key pre.length = .ok (⟨t0, [], [t]⟩, pre.length + (t0 :: seg1).length) ∧ num t = n := by
    intro n hn hb hf
    rw [hb] at hs1
    obtain ⟨t1, seg2, rfl, k1, x1, hs2⟩ := toks_cons hs1
    obtain ⟨t2, seg3, rfl, k2, x2, hs3⟩ := toks_cons hs2
    obtain rfl := toks_nil hs3
    rw [kind_semi] at k2
    rw [(num_facts hn).1] at k1
    refine ⟨t1, ?_, num_of x1 hn⟩
    unfold takeStm
    rw [h0]
    dsimp only
    rw [hf]
    show stmEnd L ts (takeParts L ts [numberK] ⟨t0, [], []⟩ (pre.length + 1)) = _
    unfold takeParts takePart
    rw [if_neg n2, if_neg n3, if_pos rfl, takeN_at (app_at e (i := 1) rfl) k1]
    dsimp only
    unfold takeParts stmEnd
    dsimp only
    rw [takeN_at (app_at e (i := 2) rfl) k2]
    rfl
  have nms : ∀ ns : List (List Nat), ns ≠ [] → (∀ x ∈ ns, NameW x) → r.body = ns → forms r.key = some [namesK] → ∃ nts : List WTok, takeStm L ts r.key pre.length = .ok (⟨t0, nts, []⟩, pre.length + (t0 :: seg1).length) ∧ nts.map (·.text) = ns := by
    intro ns hne hn hb hf
    rw [hb] at hs1
    obtain ⟨nts, y, rfl, h1, h2⟩ := toks_app hs1
    obtain ⟨tz, y2, rfl, kz, xz, h3⟩ := toks_cons h2
    obtain rfl := toks_nil h3
    rw [kind_semi] at kz
    obtain ⟨m1, m2⟩ := toks_names h1 hn
    refine ⟨nts, ?_, m2⟩
    cases nts with
    | nil => rw [← m2] at hne; exact absurd rfl hne
    | cons ta nts =>
      unfold takeStm
      rw [h0]
      dsimp only
      rw [hf]
      show stmEnd L ts (takeParts L ts [namesK] ⟨t0, [], []⟩ (pre.length + 1)) = _
      unfold takeParts takePart takeNames
      rw [if_pos rfl, takeN_at (app_at e (i := 1) rfl) (m1 ta (List.mem_cons_self ..))]
      dsimp only
      have hn2 : namesFrom ts ts.length (pre ++ [t0, ta]).length = nts := names_from (u := tz) (post := post) (by rw [kz]; exact n7) nts ts.length (pre ++ [t0, ta]) (by rw [e]; simp) (fun t ht => m1 t (List.mem_cons_of_mem _ ht)) (by rw [e]; simp; omega)
      rw [show pre.length + 1 + 1 = (pre ++ [t0, ta]).length by simp, hn2]
      unfold takeParts stmEnd
      dsimp only
      have hz : ts[(pre ++ [t0, ta]).length + nts.length]? = some tz := by
        have := app_at (pre := pre ++ [t0, ta] ++ nts) (x := [tz]) (post := post) (ts := ts) (by rw [e]; simp) (i := 0) rfl
        rw [List.length_append] at this
        exact this
      rw [takeN_at hz kz]
      simp
      omega
  cases r with
  | round n =>
    obtain ⟨t, h1, h2⟩ := one n hr rfl rfl
    exact ⟨_, h1, ⟨x0, rfl, t, rfl, h2⟩, t0, at0, k0⟩
  | opn n =>
    obtain ⟨t, h1, h2⟩ := one n hr rfl rfl
    exact ⟨_, h1, ⟨x0, rfl, t, rfl, h2⟩, t0, at0, k0⟩
  | valves ns =>
    obtain ⟨nts, h1, h2⟩ := nms ns hr.1 hr.2 rfl rfl
    exact ⟨_, h1, ⟨x0, h2⟩, t0, at0, k0⟩
  | rank ns =>
    obtain ⟨nts, h1, h2⟩ := nms ns hr.1 hr.2 rfl rfl
    exact ⟨_, h1, ⟨x0, h2⟩, t0, at0, k0⟩
  | start nm t w =>
    obtain ⟨t1, seg2, rfl, k1, x1, hs2⟩ := toks_cons hs1
    obtain ⟨t2, seg3, rfl, k2, x2, hs3⟩ := toks_cons hs2
    obtain ⟨t3, seg4, rfl, k3, x3, hs4⟩ := toks_cons hs3
    obtain ⟨t4, seg5, rfl, k4, x4, hs5⟩ := toks_cons hs4
    obtain ⟨t5, seg6, rfl, k5, x5, hs6⟩ := toks_cons hs5
    obtain rfl := toks_nil hs6
    rw [kind_semi] at k5
    rw [(name_facts hr.1).1] at k1
    rw [(num_facts hr.2.1).1] at k2
    rw [(kw_facts forK (by decide)).1] at k3
    rw [(num_facts hr.2.2).1] at k4
    refine ⟨⟨t0, [t1], [t2, t4]⟩, ?_, ⟨x0, t1, t2, t4, rfl, x1, rfl, num_of x2 hr.2.1, num_of x4 hr.2.2⟩, t0, at0, k0⟩
    unfold takeStm
    rw [h0]
    dsimp only
    show stmEnd L ts (takeParts L ts [nameK, numberK, forK, numberK] ⟨t0, [], []⟩ (pre.length + 1)) = _
    unfold takeParts takePart
    rw [if_neg n1, if_pos rfl, takeN_at (app_at e (i := 1) rfl) k1]
    dsimp only
    unfold takeParts takePart
    rw [if_neg n2, if_neg n3, if_pos rfl, takeN_at (app_at e (i := 2) rfl) k2]
    dsimp only
    unfold takeParts takePart
    rw [if_neg n4, if_neg n5, if_neg n6, takeN_at (app_at e (i := 3) rfl) k3]
    dsimp only
    unfold takeParts takePart
    rw [if_neg n2, if_neg n3, if_pos rfl, takeN_at (app_at e (i := 4) rfl) k4]
    dsimp only
    unfold takeParts stmEnd
    dsimp only
    rw [takeN_at (app_at e (i := 5) rfl) k5]
    rfl
  | pause a b =>
    obtain ⟨t1, seg2, rfl, k1, x1, hs2⟩ := toks_cons hs1
    obtain ⟨t2, seg3, rfl, k2, x2, hs3⟩ := toks_cons hs2
    obtain ⟨t3, seg4, rfl, k3, x3, hs4⟩ := toks_cons hs3
    obtain rfl := toks_nil hs4
    rw [kind_semi] at k3
    rw [(num_facts hr.1).1] at k1
    rw [(num_facts hr.2).1] at k2
    refine ⟨⟨t0, [], [t1, t2]⟩, ?_, ⟨x0, t1, t2, rfl, num_of x1 hr.1, num_of x2 hr.2⟩, t0, at0, k0⟩
    unfold takeStm
    rw [h0]
    dsimp only
    show stmEnd L ts (takeParts L ts [numberK, numberK] ⟨t0, [], []⟩ (pre.length + 1)) = _
    unfold takeParts takePart
    rw [if_neg n2, if_neg n3, if_pos rfl, takeN_at (app_at e (i := 1) rfl) k1]
    dsimp only
    unfold takeParts takePart
    rw [if_neg n2, if_neg n3, if_pos rfl, takeN_at (app_at e (i := 2) rfl) k2]
    dsimp only
    unfold takeParts stmEnd
    dsimp only
    rw [takeN_at (app_at e (i := 3) rfl) k3]
    rfl
def rowsT (rs : List ARow) : List (List Nat) := rs.flatMap fun r => r.w ++ [[59]]
def ARow.isHead : ARow → Bool
  | .round _ => true
  | .opn _ => true
  | .valves _ => true
  | _ => false
theorem parse_rest {L : Nat} {ts : List WTok} : ∀ (rs : List ARow) (seg pre : List WTok) (f : Nat), ts = pre ++ seg → Toks seg (rowsT rs) → (∀ r ∈ rs, r.ok ∧ r.isHead = false) → rs.length < f → ∃ ss, parseRest L ts f pre.length = .ok ss ∧ All2 StmIs ss rs
  | [], seg, pre, 0, _, _, _, h => absurd h (by simp)
  | [], seg, pre, f + 1, e, hs, _, _ => by
    obtain rfl := toks_nil hs
    refine ⟨[], ?_, True.intro⟩
    unfold parseRest
    rw [e, List.append_nil, List.getElem?_eq_none (Nat.le_refl _)]
  | r :: rs, seg, pre, 0, _, _, _, h => absurd h (by simp)
  | r :: rs, seg, pre, f + 1, e, hs, hr, hf => by
    obtain ⟨x, y, rfl, h1, h2⟩ := toks_app (show Toks seg ((r.w ++ [[59]]) ++ rowsT rs) from hs)
    obtain ⟨hok, hh⟩ := hr r (List.mem_cons_self ..)
    obtain ⟨s, h3, h4, t, h5, h6⟩ := takeStm_row (L := L) hok e h1
    obtain ⟨ss, h7, h8⟩ := parse_rest (L := L) (ts := ts) rs y (pre ++ x) f (by rw [e, List.append_assoc]) h2 (fun q hq => hr q (List.mem_cons_of_mem _ hq)) (by simp at hf; omega)
    refine ⟨s :: ss, ?_, h4, h8⟩
    unfold parseRest
    rw [h5]
    dsimp only
    have hk : ¬ (t.kind ∈ headL ∨ forms t.kind = none) := by
      rw [h6]
      cases r with
      | round _ => cases hh
      | opn _ => cases hh
      | valves _ => cases hh
      | rank _ => exact (by decide : ¬ (rankK ∈ headL ∨ forms rankK = none))
      | start _ _ _ => exact (by decide : ¬ (startK ∈ headL ∨ forms startK = none))
      | pause _ _ => exact (by decide : ¬ (pauseK ∈ headL ∨ forms pauseK = none))
    rw [if_neg hk, h6, h3]
    dsimp only
    rw [List.length_append] at h7
    rw [h7]
theorem parse_head {L : Nat} {ts : List WTok} : ∀ (ks : List ARow) (seg pre post : List WTok), ts = pre ++ (seg ++ post) → Toks seg (rowsT ks) → (∀ r ∈ ks, r.ok) → ∃ ss, parseHead L ts (ks.map ARow.key) pre.length = .ok (ss, pre.length + seg.length) ∧ All2 StmIs ss ks
  | [], seg, pre, post, e, hs, _ => by
    obtain rfl := toks_nil hs
    exact ⟨[], rfl, True.intro⟩
  | r :: rs, seg, pre, post, e, hs, hr => by
    obtain ⟨x, y, rfl, h1, h2⟩ := toks_app (show Toks seg ((r.w ++ [[59]]) ++ rowsT rs) from hs)
    obtain ⟨s, h3, h4, _⟩ := takeStm_row (L := L) (ts := ts) (pre := pre) (post := y ++ post) (hr r (List.mem_cons_self ..)) (by rw [e, List.append_assoc]) h1
    obtain ⟨ss, h7, h8⟩ := parse_head (L := L) (ts := ts) rs y (pre ++ x) post (by rw [e]; simp) h2 fun q hq => hr q (List.mem_cons_of_mem _ hq)
    refine ⟨s :: ss, ?_, h4, h8⟩
    rw [List.map_cons]
    unfold parseHead
    rw [h3]
    dsimp only
    rw [List.length_append] at h7
    rw [h7]
    simp
    omega
theorem parse_rows {z : List Nat} {ts : List WTok} {L m : Nat} {ns : List (List Nat)} {rs : List ARow} (hz : lex z = .ok ts) (ht : Toks ts (rowsT (.round L :: .opn m :: .valves ns :: rs))) (h0 : L ≤ 99) (h1 : m ≤ 99) (h2 : ns ≠ [] ∧ ∀ x ∈ ns, NameW x) (h3 : ∀ r ∈ rs, r.ok ∧ r.isHead = false) :
    ∃ ss, parse z = .ok ss ∧ All2 StmIs ss (.round L :: .opn m :: .valves ns :: rs) := by
  obtain ⟨x, y, rfl, t1, t2⟩ := toks_app (a := rowsT [.round L, .opn m, .valves ns]) (b := rowsT rs) (by
    have e : rowsT (.round L :: .opn m :: .valves ns :: rs) = rowsT [.round L, .opn m, .valves ns] ++ rowsT rs := by
      unfold rowsT
      simp
    rw [← e]
    exact ht)
  obtain ⟨s1, p1, a1⟩ := parse_head (L := (rowsOf z).length) (ts := x ++ y) [.round L, .opn m, .valves ns] x [] y rfl t1 (fun r hr => by
    simp only [List.mem_cons, List.not_mem_nil, or_false] at hr
    rcases hr with rfl | rfl | rfl
    · exact h0
    · exact h1
    · exact h2)
  have hl : rs.length < (x ++ y).length + 1 := by
    have : ∀ (rs : List ARow) (y : List WTok), Toks y (rowsT rs) → rs.length ≤ y.length := by
      intro rs
      induction rs with
      | nil => intro y _; exact Nat.zero_le _
      | cons r rs ih =>
        intro y hy
        obtain ⟨a, b, rfl, q1, q2⟩ := toks_app (show Toks y ((r.w ++ [[59]]) ++ rowsT rs) from hy)
        have := ih b q2
        have : a.length = (r.w ++ [[59]]).length := by
          have := congrArg List.length q1
          rw [List.length_map, List.length_map] at this
          exact this
        simp at this ⊢
        omega
    have := this rs y t2
    simp
    omega
  obtain ⟨s2, p2, a2⟩ := parse_rest (L := (rowsOf z).length) (ts := x ++ y) rs y x ((x ++ y).length + 1) rfl t2 h3 hl
  refine ⟨s1 ++ s2, ?_, ?_⟩
  · unfold parse
    rw [hz]
    dsimp only
    unfold parseToks
    rw [show parseHead (rowsOf z).length (x ++ y) headL 0 = .ok (s1, 0 + x.length) from p1]
    dsimp only
    rw [Nat.zero_add, p2]
  · match s1, a1 with
    | [u, v, q], a1 => exact ⟨a1.1, a1.2.1, a1.2.2.1, a2⟩

end Wv
end WvTY_
section WvTZ_
set_option Elab.async false
set_option linter.all false
set_option maxRecDepth 100000
set_option maxHeartbeats 4000000
namespace Wv
open PySem L2
open SX (S S_len S_inj)
local macro_rules | `(tactic| walk_at "rd") => `(tactic| (try simp only [tVar, tC, tB, tAnd, tOr, tNot, tAndV, tOrV, tNotV, tIf, tNext, tSeq, tBreak, tCont, tDrop, tRet, tRetN, tIfS, gName, gNil, gCons, gTup, gSub, tAsg, tPar, tAug, tOp, tUn, rI, rI0, rU, rEq, rNe, tTest, tFld, tNil, tCons, tTup, tLst, tCB, tNoPart, tPart, tSl, rIxL, rIxT, rIxS, rSlL, rSlS, tBM0, tBM, rAppend, rExtend, rCat, rRep, rSetL, tM0, tM1, tCall, tMeth, tMake, sFld, sFldAug, rAdd, rSub, ipI, tBM0,
  scal_ss, scal_ii, scal_bb, scal_ns, scal_sn, scal_nn, tyV_str, L2.start, List.map_cons, List.map_nil, List.length_cons, List.length_nil, List.replicate, List.cons_append, List.nil_append, List.append_nil, List.getElem?_cons_zero, List.getElem?_cons_succ, List.set_cons_zero, List.set_cons_succ, Nat.reduceAdd, Nat.reduceSub, Nat.zero_add, Nat.sub_self, Nat.add_one_sub_one,
  Option.some.injEq, exists_eq_left, exists_eq_left', exists_eq', exists_eq, V.int.injEq, V.str.injEq, V.ref.injEq, V.bl.injEq, reduceCtorEq, List.cons.injEq, and_true, true_and, exists_and_left, exists_and_right, and_assoc, decide_true, decide_false, if_true, if_false, ite_true, ite_false, Bool.false_eq_true, Bool.true_eq_false, eq_self_iff_true, cx_K, nox_K, tMkSyn, tMkChk, tYes, bne, ne_eq, not_false_eq_true, not_true_eq_false, Bool.not_true, Bool.not_false, decide_eq_true_eq, Bool.not_eq_true', decide_eq_false_iff_not]))
/-! ### rows of words: checked, and the garden of them -/
open LamX
def ARow.good (L : Nat) (ns : List (List Nat)) : ARow → Prop
  | .start nm t w => nm ∈ ns ∧ t < L ∧ 1 ≤ w ∧ w ≤ 30
  | .pause a b => a ≤ b ∧ b < L
  | .rank q => q.Nodup ∧ ∀ x ∈ q, x ∈ ns
  | _ => False
def ARow.isStart : ARow → Bool
  | .start _ _ _ => true
  | _ => false
def ARow.isRank : ARow → Bool
  | .rank _ => true
  | _ => false
def nStarts (rs : List ARow) : Nat := (rs.filter ARow.isStart).length
def nRanks (rs : List ARow) : Nat := (rs.filter ARow.isRank).length
theorem limited_in {t : WTok} {lo hi : Int} {r : List Nat} (h1 : lo ≤ ((num t : Nat) : Int)) (h2 : ((num t : Nat) : Int) ≤ hi) : limited t lo hi r = .ok (num t) := by
  unfold limited
  rw [if_neg (by omega)]
theorem valvesC_in : ∀ (ts : List WTok) (seen : List (List Nat)), (seen ++ ts.map (·.text)).Nodup → (seen ++ ts.map (·.text)).length ≤ 8 → valvesC ts seen = .ok (seen ++ ts.map (·.text))
  | [], seen, _, _ => by rw [List.map_nil, List.append_nil]; rfl
  | t :: ts, seen, hn, hl => by
    unfold valvesC
    have h1 : t.text ∉ seen := by
      intro h
      rw [List.nodup_append] at hn
      exact hn.2.2 _ h _ (by rw [List.map_cons]; exact List.mem_cons_self ..) rfl
    have h2 : seen.length ≠ 8 := by
      rw [List.length_append, List.map_cons, List.length_cons] at hl
      omega
    rw [if_neg h1, if_neg h2]
    have e : seen ++ (t :: ts).map (·.text) = (seen ++ [t.text]) ++ ts.map (·.text) := by simp
    rw [e] at hn hl ⊢
    exact valvesC_in ts _ hn hl
theorem rankC_in {ns : List (List Nat)} : ∀ (ts : List WTok) (seen : List (List Nat)), (seen ++ ts.map (·.text)).Nodup → (∀ t ∈ ts, t.text ∈ ns) → ∃ q, rankC ns ts seen = .ok q
  | [], seen, _, _ => ⟨seen, rfl⟩
  | t :: ts, seen, hn, hk => by
    unfold rankC known
    have h1 : t.text ∉ seen := by
      intro h
      rw [List.nodup_append] at hn
      exact hn.2.2 _ h _ (by rw [List.map_cons]; exact List.mem_cons_self ..) rfl
    rw [if_pos (hk t (List.mem_cons_self ..))]
    dsimp only
    rw [if_neg h1]
    have e : seen ++ (t :: ts).map (·.text) = (seen ++ [t.text]) ++ ts.map (·.text) := by simp
    rw [e] at hn
    exact rankC_in ts _ hn fun u hu => hk u (List.mem_cons_of_mem _ hu)
theorem keys_ne : startK ≠ roundK ∧ startK ≠ openK ∧ startK ≠ valvesK ∧ pauseK ≠ roundK ∧ pauseK ≠ openK ∧ pauseK ≠ valvesK ∧ pauseK ≠ startK ∧ rankK ≠ roundK ∧ rankK ≠ openK ∧ rankK ≠ valvesK ∧ rankK ≠ startK ∧ rankK ≠ pauseK ∧ openK ≠ roundK ∧ valvesK ≠ roundK ∧ valvesK ≠ openK := by decide
theorem checkC_row {L : Nat} {ns : List (List Nat)} {k : Chk} {s : WStm} {r : ARow} (hs : StmIs s r) (hp : k.period = L) (hn : k.names = ns) (hg : r.good L ns) (h1 : r.isStart = true → k.starts < 20) (h2 : r.isRank = true → k.ranks < 1) :
    ∃ k', checkC k s = .ok k' ∧ k'.period = L ∧ k'.names = ns ∧ k'.starts ≤ k.starts + (if r.isStart = true then 1 else 0) ∧ k'.ranks ≤ k.ranks + (if r.isRank = true then 1 else 0) := by
  obtain ⟨a1, a2, a3, a4, a5, a6, a7, a8, a9, b1, b2, b3, b4, b5, b6⟩ := keys_ne
  obtain ⟨hk, hb⟩ := hs
  unfold checkC
  cases r with
  | round n => exact hg.elim
  | opn n => exact hg.elim
  | valves q => exact hg.elim
  | start nm t w =>
    have hk : s.key.text = startK := hk
    obtain ⟨a, u, v, e1, e2, e3, e4, e5⟩ := hb
    obtain ⟨g1, g2, g3, g4⟩ := hg
    have h1 := h1 rfl
    rw [hk, if_neg a1, if_neg a2, if_neg a3, if_pos rfl]
    unfold startC
    rw [if_neg (by omega), e1, e3]
    dsimp only
    unfold known
    rw [hn, e2, if_pos g1]
    dsimp only
    rw [limited_in (by omega) (by omega)]
    dsimp only
    rw [limited_in (by omega) (by omega)]
    exact ⟨_, rfl, hp, rfl, by simp [ARow.isStart], by simp [ARow.isRank]⟩
  | pause a b =>
    have hk : s.key.text = pauseK := hk
    obtain ⟨u, v, e1, e2, e3⟩ := hb
    obtain ⟨g1, g2⟩ := hg
    rw [hk, if_neg a4, if_neg a5, if_neg a6, if_neg a7, if_pos rfl]
    unfold pauseC
    rw [e1]
    dsimp only
    rw [limited_in (by omega) (by omega)]
    dsimp only
    rw [limited_in (by omega) (by omega)]
    exact ⟨_, rfl, hp, hn, by simp [ARow.isStart], by simp [ARow.isRank]⟩
  | rank q =>
    have hk : s.key.text = rankK := hk
    have hb : s.names.map (·.text) = q := hb
    obtain ⟨g1, g2⟩ := hg
    have h2 := h2 rfl
    rw [hk, if_neg a8, if_neg a9, if_neg b1, if_neg b2, if_neg b3]
    unfold rankS
    rw [if_neg (by omega)]
    obtain ⟨z, hz⟩ := rankC_in (ns := k.names) s.names [] (by rw [List.nil_append, hb]; exact g1) (fun t ht => by rw [hn]; exact g2 _ (by rw [← hb]; exact List.mem_map_of_mem ht))
    rw [hz]
    exact ⟨_, rfl, hp, hn, by simp [ARow.isStart], by simp [ARow.isRank]⟩
theorem checkAll_rows {L : Nat} {ns : List (List Nat)} : ∀ (rs : List ARow) (ss : List WStm) (k : Chk), All2 StmIs ss rs → k.period = L → k.names = ns → (∀ r ∈ rs, r.good L ns) → k.starts + nStarts rs ≤ 20 → k.ranks + nRanks rs ≤ 1 → ∃ k', checkAll k ss = .ok k'
  | [], [], k, _, _, _, _, _, _ => ⟨k, rfl⟩
  | [], _ :: _, _, h, _, _, _, _, _ => h.elim
  | _ :: _, [], _, h, _, _, _, _, _ => h.elim
  | r :: rs, s :: ss, k, h, hp, hn, hg, h1, h2 => by
    have c1 : nStarts (r :: rs) = nStarts rs + (if r.isStart = true then 1 else 0) := by
      unfold nStarts
      rw [List.filter_cons]
      split <;> simp
    have c2 : nRanks (r :: rs) = nRanks rs + (if r.isRank = true then 1 else 0) := by
      unfold nRanks
      rw [List.filter_cons]
      split <;> simp
    rw [c1] at h1
    rw [c2] at h2
    obtain ⟨k', e1, e2, e3, e4, e5⟩ := checkC_row h.1 hp hn (hg r (List.mem_cons_self ..)) (fun e => by rw [if_pos e] at h1; omega) (fun e => by rw [if_pos e] at h2; omega)
    unfold checkAll
    rw [e1]
    exact checkAll_rows rs ss k' h.2 e2 e3 (fun q hq => hg q (List.mem_cons_of_mem _ hq)) (by omega) (by omega)
def rank1 (ns : List (List Nat)) (r : List Nat) : ARow → List Nat
  | .rank q => q.map ns.idxOf
  | _ => r
def rankA (ns : List (List Nat)) (rs : List ARow) : List Nat := rs.foldl (rank1 ns) [] ++ (List.range ns.length).filter (fun v => decide (v ∉ rs.foldl (rank1 ns) []))
def startA (ns : List (List Nat)) : ARow → Option Tri
  | .start nm t w => some (t, ns.idxOf nm, w)
  | _ => none
def dryA1 (d : List Bool) : ARow → List Bool
  | .pause a b => setR d a (b + 1 - a)
  | _ => d
def gardA (L m : Nat) (ns : List (List Nat)) (rs : List ARow) : WGard := ⟨L, m, ns, rankA ns rs, sortT (rs.filterMap (startA ns)), rs.foldl dryA1 (List.replicate L false)⟩
theorem rank_rows {ns : List (List Nat)} : ∀ (rs : List ARow) (ss : List WStm) (q : List Nat), All2 StmIs ss rs → ss.foldl (fun r s => if s.key.text = rankK then s.names.map (idx ns) else r) q = rs.foldl (rank1 ns) q
  | [], [], q, _ => rfl
  | [], _ :: _, _, h => h.elim
  | _ :: _, [], _, h => h.elim
  | r :: rs, s :: ss, q, h => by
    rw [List.foldl_cons, List.foldl_cons, rank_rows rs ss _ h.2]
    congr 1
    obtain ⟨hk, hb⟩ := h.1
    obtain ⟨a1, a2, a3, a4, a5, a6, a7, a8, a9, b1, b2, b3, b4, b5, b6⟩ := keys_ne
    cases r with
    | rank z =>
      have hb : s.names.map (·.text) = z := hb
      rw [if_pos (show s.key.text = rankK from hk)]
      show _ = z.map ns.idxOf
      rw [← hb, List.map_map]
      rfl
    | round n => rw [if_neg (by rw [show s.key.text = _ from hk]; exact Ne.symm a8)]; rfl
    | opn n => rw [if_neg (by rw [show s.key.text = _ from hk]; exact Ne.symm a9)]; rfl
    | valves z => rw [if_neg (by rw [show s.key.text = _ from hk]; exact Ne.symm b1)]; rfl
    | start a b c => rw [if_neg (by rw [show s.key.text = _ from hk]; exact Ne.symm b2)]; rfl
    | pause a b => rw [if_neg (by rw [show s.key.text = _ from hk]; exact Ne.symm b3)]; rfl
theorem starts_rows {ns : List (List Nat)} : ∀ (rs : List ARow) (ss : List WStm), All2 StmIs ss rs → startsOf ns ss = rs.filterMap (startA ns)
  | [], [], _ => rfl
  | [], _ :: _, h => h.elim
  | _ :: _, [], h => h.elim
  | r :: rs, s :: ss, h => by
    have ih : ss.filterMap (start1 ns) = rs.filterMap (startA ns) := starts_rows rs ss h.2
    have e : start1 ns s = startA ns r := by
      obtain ⟨hk, hb⟩ := h.1
      obtain ⟨a1, a2, a3, a4, a5, a6, a7, a8, a9, b1, b2, b3, b4, b5, b6⟩ := keys_ne
      unfold start1
      cases r with
      | start nm t w =>
        obtain ⟨a, u, v, e1, e2, e3, e4, e5⟩ := hb
        rw [if_pos (show s.key.text = startK from hk), e1, e3]
        dsimp only
        unfold idx startA
        rw [e2, e4, e5]
      | round n => rw [if_neg (by rw [show s.key.text = _ from hk]; exact Ne.symm a1)]; rfl
      | opn n => rw [if_neg (by rw [show s.key.text = _ from hk]; exact Ne.symm a2)]; rfl
      | valves z => rw [if_neg (by rw [show s.key.text = _ from hk]; exact Ne.symm a3)]; rfl
      | rank q => rw [if_neg (by rw [show s.key.text = _ from hk]; exact b2)]; rfl
      | pause a b => rw [if_neg (by rw [show s.key.text = _ from hk]; exact a7)]; rfl
    show (s :: ss).filterMap (start1 ns) = _
    rw [List.filterMap_cons, List.filterMap_cons, e, ih]
theorem dry_rows : ∀ (rs : List ARow) (ss : List WStm) (d : List Bool), All2 StmIs ss rs → ss.foldl dry1 d = rs.foldl dryA1 d
  | [], [], _, _ => rfl
  | [], _ :: _, _, h => h.elim
  | _ :: _, [], _, h => h.elim
  | r :: rs, s :: ss, d, h => by
    rw [List.foldl_cons, List.foldl_cons, dry_rows rs ss _ h.2]
    congr 1
    obtain ⟨hk, hb⟩ := h.1
    obtain ⟨a1, a2, a3, a4, a5, a6, a7, a8, a9, b1, b2, b3, b4, b5, b6⟩ := keys_ne
    unfold dry1
    cases r with
    | pause a b =>
      obtain ⟨u, v, e1, e2, e3⟩ := hb
      rw [if_pos (show s.key.text = pauseK from hk), e1]
      dsimp only
      unfold dryA1
      rw [e2, e3]
    | round n => rw [if_neg (by rw [show s.key.text = _ from hk]; exact Ne.symm a4)]; rfl
    | opn n => rw [if_neg (by rw [show s.key.text = _ from hk]; exact Ne.symm a5)]; rfl
    | valves z => rw [if_neg (by rw [show s.key.text = _ from hk]; exact Ne.symm a6)]; rfl
    | start a b c => rw [if_neg (by rw [show s.key.text = _ from hk]; exact Ne.symm a7)]; rfl
    | rank q => rw [if_neg (by rw [show s.key.text = _ from hk]; exact b3)]; rfl
/-- what the program reads of a text of gaps and the words of rows -/
theorem read_rows {gs : List (List Nat × List Nat)} {L m : Nat} {ns : List (List Nat)} {rs : List ARow} (hg : Gapped gs) (hw : gs.map (·.2) = rowsT (.round L :: .opn m :: .valves ns :: rs)) (l1 : 1 ≤ L) (l2 : L ≤ 60) (m1 : 1 ≤ m) (m2 : m ≤ 9)
    (n1 : ns ≠ []) (n2 : ∀ x ∈ ns, NameW x) (n3 : ns.Nodup) (n4 : ns.length ≤ 8) (hr : ∀ r ∈ rs, r.ok) (hd : ∀ r ∈ rs, r.good L ns) (h1 : nStarts rs ≤ 20) (h2 : nRanks rs ≤ 1) : readP (textW gs) = .ok (gardA L m ns rs) := by
  obtain ⟨ts, hl, ht⟩ := lex_textW hg
  rw [hw] at ht
  have hh : ∀ r ∈ rs, r.isHead = false := fun r h => by
    have := hd r h
    cases r <;> first | exact this.elim | rfl
  obtain ⟨ss, hp, hs⟩ := parse_rows hl ht (by omega) (by omega) ⟨n1, n2⟩ fun r h => ⟨hr r h, hh r h⟩
  match ss, hs with
  | [], hs => exact hs.elim
  | [_], hs => exact hs.2.elim
  | [_, _], hs => exact hs.2.2.elim
  | s0 :: s1 :: s2 :: ss, hs =>
    obtain ⟨⟨k0, _, t0, e0, v0⟩, ⟨k1, _, t1, e1, v1⟩, ⟨k2, e2⟩, hs⟩ := hs
    have k0 : s0.key.text = roundK := k0
    have k1 : s1.key.text = openK := k1
    have k2 : s2.key.text = valvesK := k2
    have e2 : s2.names.map (·.text) = ns := e2
    obtain ⟨a1, a2, a3, a4, a5, a6, a7, a8, a9, b1, b2, b3, b4, b5, b6⟩ := keys_ne
    obtain ⟨kk, hk⟩ := checkAll_rows (L := L) (ns := ns) rs ss ⟨L, ns, 0, 0⟩ hs rfl rfl hd (by dsimp only; omega) (by dsimp only; omega)
    have hc : checkAll ⟨0, [], 0, 0⟩ (s0 :: s1 :: s2 :: ss) = .ok kk := by
      have c0 : checkC ⟨0, [], 0, 0⟩ s0 = .ok ⟨L, [], 0, 0⟩ := by
        unfold checkC
        rw [if_pos k0, e0]
        dsimp only
        rw [limited_in (by omega) (by omega), v0]
      have c1 : checkC ⟨L, [], 0, 0⟩ s1 = .ok ⟨L, [], 0, 0⟩ := by
        unfold checkC
        rw [if_neg (by rw [k1]; exact b4), if_pos k1, e1]
        dsimp only
        rw [limited_in (by omega) (by omega)]
      have c2 : checkC ⟨L, [], 0, 0⟩ s2 = .ok ⟨L, ns, 0, 0⟩ := by
        unfold checkC
        rw [if_neg (by rw [k2]; exact b5), if_neg (by rw [k2]; exact b6), if_pos k2]
        dsimp only
        rw [valvesC_in s2.names [] (by rw [List.nil_append, e2]; exact n3) (by rw [List.nil_append, e2]; exact n4)]
        dsimp only
        rw [List.nil_append, e2]
      unfold checkAll
      rw [c0]
      dsimp only
      unfold checkAll
      rw [c1]
      dsimp only
      unfold checkAll
      rw [c2]
      exact hk
    rw [readP_ok hp hc]
    congr 1
    unfold gardOf gardA rankOf rankL rankA dryOf
    dsimp only
    rw [e2, e0, e1, rank_rows rs ss [] hs, starts_rows rs ss hs]
    rw [show num ([t0].getD 0 s0.key) = L from v0, show num ([t1].getD 0 s1.key) = m from v1, dry_rows rs ss _ hs]

end Wv
end WvTZ_
section WvRM_
set_option Elab.async false
set_option linter.all false
set_option maxRecDepth 100000
set_option maxHeartbeats 4000000
namespace Wv
open PySem L2
open SX (S S_len S_inj)
local macro_rules | `(tactic| walk_at "rd") => `(tactic| (try simp only [tVar, tC, tB, tAnd, tOr, tNot, tAndV, tOrV, tNotV, tIf, tNext, tSeq, tBreak, tCont, tDrop, tRet, tRetN, tIfS, gName, gNil, gCons, gTup, gSub, tAsg, tPar, tAug, tOp, tUn, rI, rI0, rU, rEq, rNe, tTest, tFld, tNil, tCons, tTup, tLst, tCB, tNoPart, tPart, tSl, rIxL, rIxT, rIxS, rSlL, rSlS, tBM0, tBM, rAppend, rExtend, rCat, rRep, rSetL, tM0, tM1, tCall, tMeth, tMake, sFld, sFldAug, rAdd, rSub, ipI, tBM0,
  scal_ss, scal_ii, scal_bb, scal_ns, scal_sn, scal_nn, tyV_str, L2.start, List.map_cons, List.map_nil, List.length_cons, List.length_nil, List.replicate, List.cons_append, List.nil_append, List.append_nil, List.getElem?_cons_zero, List.getElem?_cons_succ, List.set_cons_zero, List.set_cons_succ, Nat.reduceAdd, Nat.reduceSub, Nat.zero_add, Nat.sub_self, Nat.add_one_sub_one,
  Option.some.injEq, exists_eq_left, exists_eq_left', exists_eq', exists_eq, V.int.injEq, V.str.injEq, V.ref.injEq, V.bl.injEq, reduceCtorEq, List.cons.injEq, and_true, true_and, exists_and_left, exists_and_right, and_assoc, decide_true, decide_false, if_true, if_false, ite_true, ite_false, Bool.false_eq_true, Bool.true_eq_false, eq_self_iff_true, cx_K, nox_K, tMkSyn, tMkChk, tYes, bne, ne_eq, not_false_eq_true, not_true_eq_false, Bool.not_true, Bool.not_false, decide_eq_true_eq, Bool.not_eq_true', decide_eq_false_iff_not]))
/-! ### a random plan -/
open LamX
/-- a step of the law: nothing but the random list d is changed -/
structure Stp (d : Addr) (H H' : Hp) : Prop where
  k : Keep d H H'
  g : GoodD H' d
structure AtD (d : Addr) (H : Hp) (p : Addr) (o : HO) : Prop where
  ne : p ≠ d
  at_ : H p = some o
theorem Keep.trans {d : Addr} {H H' H'' : Hp} (h : Keep d H H') (g : Keep d H' H'') : Keep d H H'' := fun b o n e => g b o n (h b o n e)
theorem Stp.refl {d : Addr} {H : Hp} (g : GoodD H d) : Stp d H H := ⟨fun _ _ _ e => e, g⟩
theorem Stp.trans {d : Addr} {H H' H'' : Hp} (h : Stp d H H') (g : Stp d H' H'') : Stp d H H'' := ⟨h.k.trans g.k, g.g⟩
theorem goodd_ne {d p : Addr} {H : Hp} (g : GoodD H d) (h : H p = none) : p ≠ d := fun e => by
  obtain ⟨ys, hd, _⟩ := g
  rw [e, hd] at h
  cases h
theorem goodd_upd {d p : Addr} {H : Hp} {o : HO} (g : GoodD H d) (h : p ≠ d) : GoodD (upd H p o) d := by
  obtain ⟨ys, hd, hg⟩ := g
  exact ⟨ys, (upd_ne (Ne.symm h)).trans hd, hg⟩
theorem Stp.new {d p : Addr} {H H' : Hp} {o : HO} (s : Stp d H H') (h : H' p = none) : Stp d H (upd H' p o) := ⟨s.k.p h, goodd_upd s.g (goodd_ne s.g h)⟩
theorem Stp.free {d p : Addr} {H H' : Hp} (s : Stp d H H') (h : H' p = none) : H p = none := by
  cases e : H p with
  | none => rfl
  | some o =>
    rw [s.k p o (goodd_ne s.g h) e] at h
    cases h
theorem Stp.mut {d p : Addr} {H H' : Hp} {o : HO} (s : Stp d H H') (h : H p = none) (n : p ≠ d) : Stp d H (upd H' p o) :=
  ⟨fun b u nb e => by rw [upd_ne (fun z => by rw [z, h] at e; cases e)]; exact s.k b u nb e, goodd_upd s.g n⟩
theorem AtD.mono {d p : Addr} {H H' : Hp} {o : HO} (h : AtD d H p o) (s : Stp d H H') : AtD d H' p o := ⟨h.ne, s.k p o h.ne h.at_⟩
theorem AtD.new {d p : Addr} {H : Hp} {o : HO} (g : GoodD H d) (h : H p = none) : AtD d (upd H p o) p o := ⟨goodd_ne g h, upd_same⟩
theorem keep_hide {d : Addr} {H H' : Hp} (s : Stp d H H') : Same (hide H d) (hide H' d) := fun b o h => by
  obtain ⟨n, e⟩ := hide_some h
  rw [hide_ne n]
  exact s.k b o n e
theorem triE {d : Addr} {H H' : Hp} {as : List Addr} {ts : List Tri} (h : Each (TriAt (hide H d)) as ts) (s : Stp d H H') : Each (TriAt (hide H' d)) as ts := h.imp fun _ _ h => keep_hide s _ _ h
theorem AtD.upd {d p q : Addr} {H : Hp} {o o' : HO} (h : AtD d H p o) (n : p ≠ q) : AtD d (upd H q o') p o := ⟨h.ne, (upd_ne n).trans h.at_⟩
theorem AtD.hide {d p : Addr} {H : Hp} {o : HO} (h : AtD d H p o) : Wv.hide H d p = some o := by rw [hide_ne h.ne, h.at_]
theorem AtD.set {d p : Addr} {H : Hp} {o o' : HO} (h : AtD d H p o) : AtD d (L2.upd H p o') p o' := ⟨h.ne, upd_same⟩
theorem hide_upd {H : Hp} {d p : Addr} {o : HO} {b : Addr} (n : b ≠ p) : hide (upd H p o) d b = hide H d b := by
  unfold hide
  split
  · rfl
  · exact upd_ne n
theorem triU {d sa : Addr} {H : Hp} {as : List Addr} {ts : List Tri} {l : List V} {o : HO} (h : Each (TriAt (hide H d)) as ts) (hs : H sa = some (.lst l)) : Each (TriAt (hide (upd H sa o) d)) as ts := h.imp fun b x hb => by
  unfold TriAt at hb ⊢
  obtain ⟨_, e⟩ := hide_some hb
  rw [hide_upd (ne_of e hs (by intro z; cases z))]
  exact hb
theorem blK {d : Addr} {H : Hp} {Q : VK} {E : XK} (n : Nat) (hn1 : 1 ≤ n) (hn2 : n ≤ 100000000) (hd : GoodD H d) (k : ∀ (r : Nat) (H' : Hp), r < n → Stp d H H' → Q (.int (r : Nat)) H') : sp__law_below [.ref d, .int (n : Nat)] H Q E :=
  blw n hn1 hn2 hd fun r ys hr gy => k r _ hr ⟨(fun b u n e => by rw [upd_ne n]; exact e), ⟨ys, upd_same, gy⟩⟩
theorem fNames : (["a", "b", "cc", "longname", "x", "zed", "q", "w"] : List Str) = [[97], [98], [99, 99], [108, 111, 110, 103, 110, 97, 109, 101], [120], [122, 101, 100], [113], [119]].map S := by decide +kernel
def poolL : List (List Nat) := [[97], [98], [99, 99], [108, 111, 110, 103, 110, 97, 109, 101], [120], [122, 101, 100], [113], [119]]
theorem perm_map_inv {α β : Type} {f : α → β} {ys l : List β} (h : ys.Perm l) : ∀ xs : List α, l = xs.map f → ∃ zs : List α, ys = zs.map f ∧ zs.Perm xs := by
  induction h with
  | nil => intro xs e; exact ⟨[], rfl, by cases xs with | nil => exact .nil | cons a b => cases e⟩
  | cons x _ ih =>
    intro xs e
    cases xs with
    | nil => cases e
    | cons a xs =>
      obtain ⟨e1, e2⟩ := List.cons.inj e
      obtain ⟨zs, e3, hp⟩ := ih xs e2
      exact ⟨a :: zs, by rw [List.map_cons, e1, e3], hp.cons a⟩
  | swap x y l =>
    intro xs e
    match xs, e with
    | a :: b :: r, e =>
      simp only [List.map_cons, List.cons.injEq] at e
      obtain ⟨e1, e2, e3⟩ := e
      exact ⟨b :: a :: r, by rw [List.map_cons, List.map_cons, e1, e2, e3], .swap a b r⟩
  | trans _ _ ih1 ih2 =>
    intro xs e
    obtain ⟨z2, e2, p2⟩ := ih2 xs e
    obtain ⟨z1, e1, p1⟩ := ih1 z2 e2
    exact ⟨z1, e1, p1.trans p2⟩
theorem cut_take {xs : List V} {m : Nat} : cutV xs none (some ((m : Nat) : Int)) = xs.take m := by
  have h1 : HT.sIx xs.length xs.length (some ((m : Nat) : Int)) = min m xs.length := by
    show (if ((m : Nat) : Int) < 0 then (((m : Nat) : Int) + (xs.length : Int)).toNat else min ((m : Nat) : Int).toNat xs.length) = _
    rw [if_neg (by omega), Int.toNat_natCast]
  unfold cutV
  rw [HT.sIx_none, h1, List.drop_zero, Nat.sub_zero]
  by_cases h : m ≤ xs.length
  · rw [Nat.min_eq_left h]
  · rw [Nat.min_eq_right (by omega), List.take_length, List.take_of_length_le (by omega)]
theorem pool_eq : ([V.str "a", V.str "b", V.str "cc", V.str "longname", V.str "x", V.str "zed", V.str "q", V.str "w"] : List V) = strR poolL := by
  have := congrArg (List.map V.str) fNames
  rw [List.map_map] at this
  exact this
theorem pool_nd : poolL.Nodup := by decide
theorem flat_pool : ∀ x ∈ strR poolL, FlatV x := fun x hx => by
  obtain ⟨z, hz, rfl⟩ := List.mem_map.mp hx
  have key : (poolL.all fun z => PyData.strOk (S z)) = true := by decide +kernel
  exact .inr ⟨_, rfl, List.all_eq_true.mp key z hz⟩
theorem pickK {K : PySem.W.Frag} {d p : Addr} {H : Hp} {Q : VK} (xs : List Nat) (b c : Nat) (hc : c = xs.length) (hc1 : 1 ≤ c) (hc2 : c ≤ 100) (hx : ∀ x ∈ xs, 1 ≤ x ∧ x ≤ b) (hb : b ≤ 100000000) (g : GoodD H d) (np : H p = none)
    (k : ∀ (r : Nat) (H' : Hp), r < b → Stp d H H' → Q (.int (r : Nat)) H') : sp__law_below [.ref d, .int (c : Nat)] (upd H p (.lst (xs.map fun x => V.int (x : Nat)))) (fun y H2 => ∃ x x_1, y = V.int x_1 ∧ SqL K H2 p x ∧ ∃ x_2, atI x x_1 = some x_2 ∧ sp__law_below [.ref d, x_2] H2 Q E0) E0 := by
  have s0 : Stp d H (upd H p (.lst (xs.map fun x => V.int (x : Nat)))) := (Stp.refl g).new np
  have a0 : AtD d (upd H p (.lst (xs.map fun x => V.int (x : Nat)))) p (.lst (xs.map fun x => V.int (x : Nat))) := .new g np
  refine blK c hc1 (by omega) s0.g fun r H1 hr s1 => ?_
  have hr' : r < xs.length := by omega
  obtain ⟨h1, h2⟩ := hx xs[r] (List.getElem_mem hr')
  refine ⟨_, _, rfl, SqL.of (a0.mono s1).at_, .int (xs[r] : Nat), atI_nat (by rw [List.getElem?_map, List.getElem?_eq_getElem hr']; rfl), ?_⟩
  exact blK xs[r] h1 (by omega) s1.g fun q H2 hq s2 => k q H2 (by omega) ((s0.trans s1).trans s2)
def sgQ (d : Addr) (n m : Nat) (na : Addr) (L : Nat) (v5 v6 v7 v8 v9 v10 : Option V) : L2.St := [some (.ref d), some (.int (n : Nat)), some (.int (m : Nat)), some (.ref na), some (.int (L : Nat)), v5, v6, v7, v8, v9, v10, none]
/-- for k in range(..): C of the bound and the heap before the first turn -/
theorem for_rg1 {ta : TA} {g : TG} {tb : TS} {D : Ends} {σ : L2.St} {H : Hp} (C : Nat → Hp → Prop) (Pv : Nat → Nat → L2.St → Hp → Prop)
    (h : ∀ B : Nat → Hp → Prop, (∀ r H1, C r H1 → B r H1) → ta σ H fun vs H1 => ∃ j : Int, vs = [.int j] ∧ -(2 ^ 62) ≤ j ∧ j < 2 ^ 62 ∧ B j.toNat H1)
    (h0 : ∀ r H1, C r H1 → Pv r 0 σ H1)
    (hs : ∀ (r i : Nat) σ H, i < r → Pv r i σ H → g (.int ((i : Nat) : Int)) σ H fun σ2 H2 => tb { D with nx := Pv r (i + 1), ct := Pv r (i + 1), bk := D.nx } σ2 H2) (hd : ∀ r σ H, Pv r r σ H → D.nx σ H) : tFor (iRng1 ta) g tb D σ H := by
  refine h (fun r H1 => ∃ W : Nat → Nat → L2.St → Hp → Prop, (∃ m, W 0 m σ H1) ∧ ∀ i m σ H, W i m σ H →
    ((Itr 0 r).stop i H ∧ D.nx σ H) ∨ ((Itr 0 r).go i H ∧ ∃ N : L2.St → Hp → Prop, (∀ σ' H', N σ' H' → ∃ m', m' < m ∧ W (i + 1) m' σ' H') ∧ ∀ x H', (Itr 0 r).yld i H x H' → g x σ H' fun σ2 H2 => tb { D with nx := N, ct := N, bk := D.nx } σ2 H2)) (fun r H1 c => ?_)
  refine for_it (walk_range (lo := 0) (n := r)) (Pv r) (h0 r H1 c) (fun _ _ _ _ _ => True.intro) ?_ (hd r)
  rintro i x σ H H' hi pv ⟨rfl, rfl⟩
  have e : (fun j : Nat => V.int (0 + (j : Int))) i = V.int ((i : Nat) : Int) := by
    show V.int (0 + ((i : Nat) : Int)) = _
    rw [Int.zero_add]
  rw [e]
  exact hs r i σ _ hi pv
theorem each_cons_inv {α : Type} {R : Addr → α → Prop} {a : Addr} {as : List Addr} {xs : List α} (h : Each R (a :: as) xs) : ∃ x r, xs = x :: r ∧ R a x ∧ Each R as r := by
  cases xs with
  | nil => cases h.1
  | cons x r => exact ⟨x, r, rfl, h.2 0 a x rfl rfl, Nat.succ.inj h.1, fun i b t hb ht => h.2 (i + 1) b t hb ht⟩
theorem each_cons {α : Type} {R : Addr → α → Prop} {a : Addr} {as : List Addr} {x : α} {xs : List α} (r : R a x) (h : Each R as xs) : Each R (a :: as) (x :: xs) := by
  refine ⟨congrArg Nat.succ h.1, fun i b t hb ht => ?_⟩
  cases i with
  | zero =>
    obtain rfl := Option.some.inj hb
    obtain rfl := Option.some.inj ht
    exact r
  | succ i => exact h.2 i b t hb ht
theorem each_perm {α : Type} {R : Addr → α → Prop} {ms ls : List Addr} (h : ms.Perm ls) : ∀ xs : List α, Each R ls xs → ∃ os : List α, os.Perm xs ∧ Each R ms os := by
  induction h with
  | nil => intro xs e; exact ⟨xs, .refl _, e⟩
  | cons x _ ih =>
    intro xs e
    obtain ⟨y, r, rfl, hy, hr⟩ := each_cons_inv e
    obtain ⟨os, p, ho⟩ := ih r hr
    exact ⟨y :: os, p.cons y, each_cons hy ho⟩
  | swap x y l =>
    intro xs e
    obtain ⟨a, r, rfl, ha, hr⟩ := each_cons_inv e
    obtain ⟨b, r, rfl, hb, hr⟩ := each_cons_inv hr
    exact ⟨b :: a :: r, .swap a b r, each_cons hb (each_cons ha hr)⟩
  | trans _ _ ih1 ih2 =>
    intro xs e
    obtain ⟨o2, p2, e2⟩ := ih2 xs e
    obtain ⟨o1, p1, e1⟩ := ih1 o2 e2
    exact ⟨o1, p1.trans p2, e1⟩
theorem flatv_ints (l : List Nat) : ∀ x ∈ l.map (fun v => V.int (v : Nat)), FlatV x := fun x hx => by
  obtain ⟨z, _, rfl⟩ := List.mem_map.mp hx
  exact .inl ⟨_, rfl⟩
def plc (ts : List Tri) (k : Nat) : Tri := ((ts.getD k (0, 0, 0)).1, (ts.getD k (0, 0, 0)).2.1, k)
theorem plc_le {ts : List Tri} {L m : Nat} (h : ∀ x ∈ ts, x.1 < L ∧ x.2.1 < m ∧ 1 ≤ x.2.2 ∧ x.2.2 ≤ 30) (hm : m ≤ 100) (hL : L ≤ 100) (hl : ts.length ≤ 50) {k : Nat} (hk : k < ts.length) : (plc ts k).1 ≤ 100 ∧ (plc ts k).2.1 ≤ 100 ∧ (plc ts k).2.2 ≤ 100 := by
  unfold plc
  rw [List.getD_eq_getElem?_getD, List.getElem?_eq_getElem hk]
  obtain ⟨a, b, _⟩ := h ts[k] (List.getElem_mem hk)
  show ts[k].1 ≤ 100 ∧ ts[k].2.1 ≤ 100 ∧ k ≤ 100
  omega
theorem code_tri (a b c : Nat) : TS.code 1000 [(a : Int), (b : Int), (c : Int)] = (a : Int) * 1000000 + ((b : Int) * 1000 + (c : Int)) := by
  show (a : Int) * 1000 ^ 2 + ((b : Int) * 1000 ^ 1 + ((c : Int) * 1000 ^ 0 + 0)) = _
  rw [show (1000 : Int) ^ 2 = 1000000 by decide, show (1000 : Int) ^ 1 = 1000 by decide, show (1000 : Int) ^ 0 = 1 by decide]
  omega
theorem code_le {x y : Tri} (hx : x.1 ≤ 100 ∧ x.2.1 ≤ 100 ∧ x.2.2 ≤ 100) (hy : y.1 ≤ 100 ∧ y.2.1 ≤ 100 ∧ y.2.2 ≤ 100) (h : TS.code 1000 [((x.1 : Nat) : Int), ((x.2.1 : Nat) : Int), ((x.2.2 : Nat) : Int)] ≤ TS.code 1000 [((y.1 : Nat) : Int), ((y.2.1 : Nat) : Int), ((y.2.2 : Nat) : Int)]) : x.1 < y.1 ∨ x.1 = y.1 ∧ x.2.1 ≤ y.2.1 := by
  rw [code_tri, code_tri] at h
  omega
structure PlanOk (p : WPlan) : Prop where
  l1 : 1 ≤ p.len
  l2 : p.len ≤ 60
  m1 : 1 ≤ p.most
  m2 : p.most ≤ 9
  n1 : 1 ≤ p.names.length
  n2 : p.names.length ≤ 8
  nd : p.names.Nodup
  np : ∀ n ∈ p.names, n ∈ poolL
  rk : p.ranks.Perm (List.range p.names.length)
  sl : p.starts.length ≤ 12
  st : ∀ x ∈ p.starts, x.1 < p.len ∧ x.2.1 < p.names.length ∧ 1 ≤ x.2.2 ∧ x.2.2 ≤ 30
  so : p.starts.Pairwise fun x y => x.1 < y.1 ∨ x.1 = y.1 ∧ x.2.1 ≤ y.2.1
  qn : p.paused.length ≤ p.len
  ql : p.paused.Pairwise (· < ·)
  qk : ∀ t ∈ p.paused, t < p.len
theorem hide_le {H : Hp} {d : Addr} : Same (hide H d) H := fun b o h => (hide_some h).2
theorem plan_mono {H H' : Hp} {pl : Addr} {p : WPlan} (h : PlanAt H pl p) (s : Same H H') : PlanAt H' pl p := by
  obtain ⟨na, ra, sa, qa, as, h1, h2, h3, h4, h5, h6⟩ := h.ex
  exact ⟨na, ra, sa, qa, as, s _ _ h1, s _ _ h2, s _ _ h3, s _ _ h4, h5.imp fun _ _ h => s _ _ h, s _ _ h6⟩
theorem Stp.same {d : Addr} {H H' : Hp} (s : Same H H') (g : GoodD H d) : Stp d H H' := ⟨fun b o _ e => s _ _ e, by
  obtain ⟨ys, hd, hg⟩ := g
  exact ⟨ys, s _ _ hd, hg⟩⟩

end Wv
end WvRM_
section WvTP_
set_option Elab.async false
set_option linter.all false
set_option maxRecDepth 100000
set_option maxHeartbeats 4000000
namespace Wv
open PySem L2
open SX (S S_len S_inj)
local macro_rules | `(tactic| walk_at "rd") => `(tactic| (try simp only [tVar, tC, tB, tAnd, tOr, tNot, tAndV, tOrV, tNotV, tIf, tNext, tSeq, tBreak, tCont, tDrop, tRet, tRetN, tIfS, gName, gNil, gCons, gTup, gSub, tAsg, tPar, tAug, tOp, tUn, rI, rI0, rU, rEq, rNe, tTest, tFld, tNil, tCons, tTup, tLst, tCB, tNoPart, tPart, tSl, rIxL, rIxT, rIxS, rSlL, rSlS, tBM0, tBM, rAppend, rExtend, rCat, rRep, rSetL, tM0, tM1, tCall, tMeth, tMake, sFld, sFldAug, rAdd, rSub, ipI, tBM0,
  scal_ss, scal_ii, scal_bb, scal_ns, scal_sn, scal_nn, tyV_str, L2.start, List.map_cons, List.map_nil, List.length_cons, List.length_nil, List.replicate, List.cons_append, List.nil_append, List.append_nil, List.getElem?_cons_zero, List.getElem?_cons_succ, List.set_cons_zero, List.set_cons_succ, Nat.reduceAdd, Nat.reduceSub, Nat.zero_add, Nat.sub_self, Nat.add_one_sub_one,
  Option.some.injEq, exists_eq_left, exists_eq_left', exists_eq', exists_eq, V.int.injEq, V.str.injEq, V.ref.injEq, V.bl.injEq, reduceCtorEq, List.cons.injEq, and_true, true_and, exists_and_left, exists_and_right, and_assoc, decide_true, decide_false, if_true, if_false, ite_true, ite_false, Bool.false_eq_true, Bool.true_eq_false, eq_self_iff_true, cx_K, nox_K, tMkSyn, tMkChk, tYes, bne, ne_eq, not_false_eq_true, not_true_eq_false, Bool.not_true, Bool.not_false, decide_eq_true_eq, Bool.not_eq_true', decide_eq_false_iff_not]))
/-! ### a plan's own text: what the program reads of it -/
open LamX
theorem plan_good {p : WPlan} (h : PlanOk p) : GoodPlan p := by
  have hp : ∀ w ∈ poolL, w.length ≤ 8 := by decide
  have hl2 := h.l2
  have hm2 := h.m2
  refine ⟨by omega, by omega, h.n2, fun n hn => hp n (h.np n hn), ?_, fun v hv => ?_, Nat.le_trans h.sl (by decide), fun x hx => ?_, by have := h.qn; omega, fun t ht => by have := h.qk t ht; omega⟩
  · rw [h.rk.length_eq, List.length_range]
    exact h.n2
  · exact List.mem_range.mp (h.rk.mem_iff.mp hv)
  · obtain ⟨a, b, c, d⟩ := h.st x hx
    exact ⟨by omega, b, by omega⟩
theorem pool_name : ∀ w ∈ poolL, NameW w := by
  have key : ∀ w ∈ poolL, w ≠ [] ∧ w.length ≤ 8 ∧ (∀ c ∈ w, c ∈ letters) ∧ w ∉ keywords := by decide +kernel
  exact key
theorem nmP_in {p : WPlan} {v : Nat} (hv : v < p.names.length) : nmP p v ∈ p.names := by
  rw [nmP, List.getD_eq_getElem?_getD, List.getElem?_eq_getElem hv]
  exact List.getElem_mem hv
theorem nmP_idx {p : WPlan} (h : p.names.Nodup) {v : Nat} (hv : v < p.names.length) : p.names.idxOf (nmP p v) = v := by
  rw [nmP, List.getD_eq_getElem?_getD, List.getElem?_eq_getElem hv]
  exact h.idxOf_getElem v hv
/-! #### runs -/
theorem runsA_snoc (l : List Nat) (t : Nat) : runsA (l ++ [t]) = runA1 (runsA l) t := by
  unfold runsA
  rw [List.foldl_append]
  rfl
theorem runA1_last (r : List (Nat × Nat)) (t : Nat) : ∃ q a, runA1 r t = q ++ [(a, t)] := by
  unfold runA1
  split
  · split
    · exact ⟨_, _, rfl⟩
    · exact ⟨_, _, rfl⟩
  · exact ⟨[], _, rfl⟩
theorem runsA_last {l : List Nat} (h : l ≠ []) : ∃ q a, runsA l = q ++ [(a, l.getLast h)] := by
  obtain ⟨m, x, rfl⟩ := last_split h
  rw [runsA_snoc, show (m ++ [x]).getLast h = x by simp]
  exact runA1_last _ _
/-- t is in one of the runs -/
def InRuns (rs : List (Nat × Nat)) (t : Nat) : Prop := ∃ r ∈ rs, r.1 ≤ t ∧ t ≤ r.2
theorem runsA_in (l : List Nat) : ∀ (n : Nat), n = l.length → l.Pairwise (· < ·) → (∀ t, InRuns (runsA l) t ↔ t ∈ l) ∧ (∀ r ∈ runsA l, r.1 ≤ r.2 ∧ r.2 ∈ l) := by
  intro n
  induction n generalizing l with
  | zero =>
    intro hn _
    obtain rfl := List.length_eq_zero_iff.mp hn.symm
    refine ⟨fun t => ⟨fun ⟨r, hr, _⟩ => (by cases hr), fun h => (by cases h)⟩, fun r hr => (by cases hr)⟩
  | succ n ih =>
    intro hn hp
    obtain ⟨m, x, rfl⟩ := last_split (r := l) (by intro e; rw [e] at hn; cases hn)
    rw [List.length_append, List.length_singleton] at hn
    rw [List.pairwise_append] at hp
    obtain ⟨hp1, _, hlt⟩ := hp
    obtain ⟨i1, i2⟩ := ih m (by omega) hp1
    have hlt : ∀ y ∈ m, y < x := fun y hy => hlt y hy x (List.mem_singleton.mpr rfl)
    rw [runsA_snoc]
    unfold runA1
    cases e : (runsA m).getLast? with
    | none =>
      rw [List.getLast?_eq_none_iff] at e
      dsimp only
      have hm : ∀ t, t ∉ m := fun t ht => by
        obtain ⟨r, hr, _⟩ := (i1 t).mpr ht
        rw [e] at hr
        cases hr
      refine ⟨fun t => ⟨fun ⟨r, hr, h1, h2⟩ => ?_, fun h => ?_⟩, fun r hr => ?_⟩
      · obtain rfl := List.mem_singleton.mp hr
        have : t = x := by dsimp only at h1 h2; omega
        rw [this]
        simp
      · rcases List.mem_append.mp h with h | h
        · exact absurd h (hm t)
        · obtain rfl := List.mem_singleton.mp h
          exact ⟨_, List.mem_singleton.mpr rfl, Nat.le_refl _, Nat.le_refl _⟩
      · obtain rfl := List.mem_singleton.mp hr
        exact ⟨Nat.le_refl _, by simp⟩
    | some z =>
      dsimp only
      obtain ⟨q, e2⟩ : ∃ q, runsA m = q ++ [z] := List.getLast?_eq_some_iff.mp e
      have hz := i2 z (by rw [e2]; simp)
      split
      · rename_i hzx
        have hzx : z.2 + 1 = x := by have := hlt z.2 hz.2; omega
        rw [e2, List.dropLast_concat]
        refine ⟨fun t => ⟨fun ⟨r, hr, h1, h2⟩ => ?_, fun h => ?_⟩, fun r hr => ?_⟩
        · rcases List.mem_append.mp hr with hr | hr
          · exact List.mem_append_left _ ((i1 t).mp ⟨r, by rw [e2]; exact List.mem_append_left _ hr, h1, h2⟩)
          · obtain rfl := List.mem_singleton.mp hr
            dsimp only at h1 h2
            by_cases htx : t = x
            · rw [htx]; simp
            · exact List.mem_append_left _ ((i1 t).mp ⟨z, by rw [e2]; simp, h1, by omega⟩)
        · rcases List.mem_append.mp h with h | h
          · obtain ⟨r, hr, h1, h2⟩ := (i1 t).mpr h
            rw [e2] at hr
            rcases List.mem_append.mp hr with hr | hr
            · exact ⟨r, List.mem_append_left _ hr, h1, h2⟩
            · obtain rfl := List.mem_singleton.mp hr
              exact ⟨_, List.mem_append_right _ (List.mem_singleton.mpr rfl), h1, by dsimp only; omega⟩
          · obtain rfl := List.mem_singleton.mp h
            exact ⟨_, List.mem_append_right _ (List.mem_singleton.mpr rfl), by dsimp only; omega, Nat.le_refl _⟩
        · rcases List.mem_append.mp hr with hr | hr
          · obtain ⟨a, b⟩ := i2 r (by rw [e2]; exact List.mem_append_left _ hr)
            exact ⟨a, List.mem_append_left _ b⟩
          · obtain rfl := List.mem_singleton.mp hr
            exact ⟨by dsimp only; omega, by simp⟩
      · refine ⟨fun t => ⟨fun ⟨r, hr, h1, h2⟩ => ?_, fun h => ?_⟩, fun r hr => ?_⟩
        · rcases List.mem_append.mp hr with hr | hr
          · exact List.mem_append_left _ ((i1 t).mp ⟨r, hr, h1, h2⟩)
          · obtain rfl := List.mem_singleton.mp hr
            have : t = x := by dsimp only at h1 h2; omega
            rw [this]; simp
        · rcases List.mem_append.mp h with h | h
          · obtain ⟨r, hr, h1, h2⟩ := (i1 t).mpr h
            exact ⟨r, List.mem_append_left _ hr, h1, h2⟩
          · obtain rfl := List.mem_singleton.mp h
            exact ⟨_, List.mem_append_right _ (List.mem_singleton.mpr rfl), Nat.le_refl _, Nat.le_refl _⟩
        · rcases List.mem_append.mp hr with hr | hr
          · obtain ⟨a, b⟩ := i2 r hr
            exact ⟨a, List.mem_append_left _ b⟩
          · obtain rfl := List.mem_singleton.mp hr
            exact ⟨Nat.le_refl _, by simp⟩
/-! #### paused ticks -/
theorem setR_get : ∀ (n a : Nat) (d : List Bool) (t : Nat), t < d.length → (setR d a n)[t]? = some (decide (a ≤ t ∧ t < a + n) || (d[t]?.getD false))
  | 0, a, d, t, ht => by
    show d[t]? = _
    rw [decide_eq_false (by omega), Bool.false_or, List.getElem?_eq_getElem ht]
    rfl
  | n + 1, a, d, t, ht => by
    rw [setR_snoc, List.getElem?_set, setR_get n a d t ht]
    by_cases h : a + n = t
    · rw [if_pos h, if_pos (by rw [setR_len]; omega), decide_eq_true (by omega), Bool.true_or]
    · rw [if_neg h]
      congr 2
      exact decide_eq_decide.mpr (by omega)
/-- t is paused by one of the rows -/
def PausedBy (rs : List ARow) (t : Nat) : Prop := ∃ a b, ARow.pause a b ∈ rs ∧ a ≤ t ∧ t ≤ b
theorem dryA1_len (d : List Bool) (r : ARow) : (dryA1 d r).length = d.length := by
  unfold dryA1
  split
  · exact setR_len _ _ _
  · rfl
theorem dry_fold : ∀ (rs : List ARow) (d : List Bool), (rs.foldl dryA1 d).length = d.length ∧ ∀ t, t < d.length → ((rs.foldl dryA1 d)[t]? = some true ↔ PausedBy rs t ∨ d[t]? = some true)
  | [], d => ⟨rfl, fun t _ => ⟨fun h => .inr h, fun h => h.elim (fun ⟨_, _, h, _⟩ => (by cases h)) id⟩⟩
  | r :: rs, d => by
    obtain ⟨h1, h2⟩ := dry_fold rs (dryA1 d r)
    rw [dryA1_len] at h1 h2
    refine ⟨h1, fun t ht => ?_⟩
    rw [List.foldl_cons, h2 t ht]
    have key : (dryA1 d r)[t]? = some true ↔ (∃ a b, r = .pause a b ∧ a ≤ t ∧ t ≤ b) ∨ d[t]? = some true := by
      unfold dryA1
      cases r with
      | pause a b =>
        dsimp only
        rw [setR_get _ _ _ _ ht]
        have hd : (d[t]? = some true) ↔ (d[t]?.getD false = true) := by
          rw [List.getElem?_eq_getElem ht]
          simp
        rw [Option.some.injEq, Bool.or_eq_true, decide_eq_true_eq, hd]
        constructor
        · rintro (h | h)
          · by_cases hab : a ≤ b
            · exact .inl ⟨a, b, rfl, h.1, by omega⟩
            · exact absurd h (by omega)
          · exact .inr h
        · rintro (⟨a', b', e, x, y⟩ | h)
          · cases e
            exact .inl (by omega)
          · exact .inr h
      | round n => exact ⟨fun h => .inr h, fun h => h.elim (fun ⟨_, _, e, _⟩ => by cases e) id⟩
      | opn n => exact ⟨fun h => .inr h, fun h => h.elim (fun ⟨_, _, e, _⟩ => by cases e) id⟩
      | valves n => exact ⟨fun h => .inr h, fun h => h.elim (fun ⟨_, _, e, _⟩ => by cases e) id⟩
      | rank n => exact ⟨fun h => .inr h, fun h => h.elim (fun ⟨_, _, e, _⟩ => by cases e) id⟩
      | start x y z => exact ⟨fun h => .inr h, fun h => h.elim (fun ⟨_, _, e, _⟩ => by cases e) id⟩
    rw [key]
    constructor
    · rintro (⟨a, b, hm, hh⟩ | ⟨a, b, rfl, hh⟩ | h)
      · exact .inl ⟨a, b, List.mem_cons_of_mem _ hm, hh⟩
      · exact .inl ⟨a, b, List.mem_cons_self .., hh⟩
      · exact .inr h
    · rintro (⟨a, b, hm, hh⟩ | h)
      · rcases List.mem_cons.mp hm with e | hm
        · exact .inr (.inl ⟨a, b, e.symm, hh⟩)
        · exact .inl ⟨a, b, hm, hh⟩
      · exact .inr (.inr h)
def dryP (L : Nat) (ts : List Nat) : List Bool := (List.range L).map fun t => decide (t ∈ ts)
theorem dry_is {L : Nat} {rs : List ARow} {ts : List Nat} (h : ∀ t, t < L → (PausedBy rs t ↔ t ∈ ts)) : rs.foldl dryA1 (List.replicate L false) = dryP L ts := by
  obtain ⟨h1, h2⟩ := dry_fold rs (List.replicate L false)
  rw [List.length_replicate] at h1 h2
  refine List.ext_getElem? fun t => ?_
  by_cases ht : t < L
  · have e := h2 t ht
    rw [h t ht, List.getElem?_replicate_of_lt ht] at e
    have e : (rs.foldl dryA1 (List.replicate L false))[t]? = some true ↔ t ∈ ts := by
      rw [e]
      simp
    unfold dryP
    rw [List.getElem?_map, List.getElem?_range ht]
    show _ = some (decide (t ∈ ts))
    rw [List.getElem?_eq_getElem (by rw [h1]; exact ht)] at e ⊢
    congr 1
    rw [Option.some.injEq] at e
    rw [Bool.eq_iff_iff, e, decide_eq_true_eq]
  · rw [List.getElem?_eq_none (by omega), List.getElem?_eq_none (by unfold dryP; rw [List.length_map, List.length_range]; omega)]
theorem dryAt_P {L : Nat} {ts : List Nat} {t : Nat} (ht : t < L) : dryAt (dryP L ts) t = decide (t ∈ ts) := by
  unfold dryAt dryP
  rw [List.getElem?_map, List.getElem?_range ht]
  rfl
theorem filt_succ {ts : List Nat} (hp : ts.Pairwise (· < ·)) (n : Nat) : ts.filter (fun t => decide (t < n + 1)) = ts.filter (fun t => decide (t < n)) ++ (if n ∈ ts then [n] else []) := by
  induction ts with
  | nil => rfl
  | cons x ts ih =>
    rw [List.pairwise_cons] at hp
    have ih := ih hp.2
    rw [List.filter_cons, List.filter_cons]
    by_cases h1 : x < n
    · rw [if_pos (by rw [decide_eq_true_eq]; omega), if_pos (by rw [decide_eq_true_eq]; omega), ih, List.cons_append]
      congr 2
      by_cases h2 : n ∈ ts
      · rw [if_pos h2, if_pos (List.mem_cons_of_mem _ h2)]
      · rw [if_neg h2, if_neg (fun h => (List.mem_cons.mp h).elim (fun e => by omega) h2)]
    · have none : ∀ m, m ≤ n + 1 → ts.filter (fun t => decide (t < m)) = [] := fun m hm => by
        rw [List.filter_eq_nil_iff]
        intro y hy
        have := hp.1 y hy
        rw [decide_eq_true_eq]
        omega
      by_cases h2 : x = n
      · rw [if_pos (by rw [decide_eq_true_eq]; omega), if_neg (by rw [decide_eq_true_eq]; omega), none (n + 1) (Nat.le_refl _), none n (by omega), if_pos (by rw [h2]; exact List.mem_cons_self ..), h2]
        rfl
      · rw [if_neg (by rw [decide_eq_true_eq]; omega), if_neg (by rw [decide_eq_true_eq]; omega), none (n + 1) (Nat.le_refl _), none n (by omega), if_neg (fun h => (List.mem_cons.mp h).elim (fun e => h2 e.symm) fun h => by have := hp.1 n h; omega)]
        rfl
theorem runs_dry {L : Nat} {ts : List Nat} (hp : ts.Pairwise (· < ·)) (hL : ∀ t ∈ ts, t < L) : ∀ n, n ≤ L → runsTo (dryP L ts) n = runsA (ts.filter fun t => decide (t < n))
  | 0, _ => by
    rw [show ts.filter (fun t => decide (t < 0)) = [] from List.filter_eq_nil_iff.mpr (by intro a _; simp)]
    rfl
  | n + 1, hn => by
    have ih := runs_dry hp hL n (by omega)
    rw [runsTo_succ, ih, filt_succ hp]
    unfold runStep
    rw [dryAt_P (by omega)]
    by_cases h : n ∈ ts
    · rw [if_pos (decide_eq_true h), if_pos h, runsA_snoc]
      unfold runA1
      by_cases h2 : 0 < n ∧ dryAt (dryP L ts) (n - 1) = true
      · rw [if_pos h2]
        obtain ⟨h3, h4⟩ := h2
        rw [dryAt_P (by omega), decide_eq_true_eq] at h4
        have e := filt_succ hp (n - 1)
        rw [Nat.sub_add_cancel h3, if_pos h4] at e
        rw [e, runsA_snoc]
        obtain ⟨q, a, e2⟩ := runA1_last (runsA (ts.filter fun t => decide (t < n - 1))) (n - 1)
        rw [e2, List.getLast?_concat, List.dropLast_concat]
        dsimp only
        rw [if_pos (by omega)]
        rfl
      · rw [if_neg h2]
        cases e : (runsA (ts.filter fun t => decide (t < n))).getLast? with
        | none =>
          rw [List.getLast?_eq_none_iff] at e
          rw [e]
          rfl
        | some z =>
          dsimp only
          obtain ⟨q, e2⟩ : ∃ q, runsA (ts.filter fun t => decide (t < n)) = q ++ [z] := List.getLast?_eq_some_iff.mp e
          have hz := (runsA_in _ _ rfl (hp.sublist List.filter_sublist)).2 z (by rw [e2]; simp)
          obtain ⟨hz1, hz2⟩ := List.mem_filter.mp hz.2
          rw [decide_eq_true_eq] at hz2
          rw [if_neg]
          intro h5
          refine h2 ⟨by omega, ?_⟩
          rw [dryAt_P (by omega), show n - 1 = z.2 by omega]
          exact decide_eq_true hz1
    · rw [if_neg (by rw [decide_eq_false h]; decide), if_neg h, List.append_nil]
theorem runs_dryP {L : Nat} {ts : List Nat} (hp : ts.Pairwise (· < ·)) (hL : ∀ t ∈ ts, t < L) : runsOf (dryP L ts) = runsA ts := by
  unfold runsOf
  rw [show (dryP L ts).length = L by unfold dryP; rw [List.length_map, List.length_range], runs_dry hp hL L (Nat.le_refl _), List.filter_eq_self.mpr]
  intro t ht
  exact decide_eq_true (hL t ht)
/-! #### the garden of a plan -/
def gardP (p : WPlan) : WGard := ⟨p.len, p.most, p.names, p.ranks, p.starts, dryP p.len p.paused⟩
theorem lines_P (p : WPlan) (h : PlanOk p) : linesOf (gardP p) = (rowsP p).map fun r => TL.joinL [32] r ++ [59] := by
  rw [rowsP_eq]
  unfold linesOf lines2 lines1 rows2 rows1
  rw [List.map_append, List.map_append, List.map_append]
  congr 1
  · congr 1
    · congr 1
      · unfold lines0 rows0 lineOf
        simp only [gardP, List.map_cons, List.map_nil, List.map_map]
        congr 4
        rw [show ((fun x : WWord => x.t) ∘ WWord.s) = id from rfl, List.map_id]
        rfl
      · show (if p.ranks = List.range p.names.length then _ else _) = _
        split
        · rfl
        · show [lineOf rankK (p.ranks.map fun v => WWord.s (nmP p v))] = _
          unfold lineOf
          rw [List.map_map]
          rfl
    · rw [List.map_map]
      rfl
  · rw [show runsOf (gardP p).dry = runsA p.paused from runs_dryP h.ql h.qk, List.map_map]
    rfl
theorem text_P {p : WPlan} (h : PlanOk p) : textOf (gardP p) = textP p := by
  unfold textOf textP
  rw [lines_P p h]
theorem sort_P {p : WPlan} (h : PlanOk p) : sortT p.starts = p.starts := by
  refine (sortT_uniq ?_ (SrtO.Stb.refl _)).symm
  refine h.so.imp fun {x y} hxy => ?_
  rw [← Bool.not_eq_true]
  intro e
  rcases SrtO.lexB_iff.mp e with h1 | ⟨h1, h2⟩
  · have h1 : ((y.1 : Nat) : Int) < ((x.1 : Nat) : Int) := h1
    omega
  · have h1 : ((y.1 : Nat) : Int) = ((x.1 : Nat) : Int) := h1
    have h2 : ((y.2.1 : Nat) : Int) < ((x.2.1 : Nat) : Int) := h2
    omega
def startR (p : WPlan) (x : Tri) : ARow := .start (nmP p x.2.1) x.1 x.2.2
theorem start_back {p : WPlan} (h : PlanOk p) : ∀ l : List Tri, (∀ x ∈ l, x.2.1 < p.names.length) → (l.map (startR p)).filterMap (startA p.names) = l
  | [], _ => rfl
  | x :: l, hl => by
    have e : startA p.names (startR p x) = some x := by
      show some (x.1, p.names.idxOf (nmP p x.2.1), x.2.2) = _
      rw [nmP_idx h.nd (hl x (List.mem_cons_self ..))]
    rw [List.map_cons, List.filterMap_cons, e]
    dsimp only
    rw [start_back h l fun y hy => hl y (List.mem_cons_of_mem _ hy)]
/-- rows in any order that mean the plan p -/
structure RowsOk (p : WPlan) (rs : List ARow) : Prop where
  ok : ∀ r ∈ rs, r.ok ∧ r.good p.len p.names
  st : rs.filterMap (startA p.names) = p.starts
  ns : nStarts rs ≤ 20
  nr : nRanks rs ≤ 1
  rk : rankA p.names rs = p.ranks
  dr : ∀ t, t < p.len → (PausedBy rs t ↔ t ∈ p.paused)
  rl : ∀ q, ARow.rank q ∈ rs → q.length ≤ 8
theorem gard_rows {p : WPlan} (h : PlanOk p) {rs : List ARow} (hr : RowsOk p rs) : gardA p.len p.most p.names rs = gardP p := by
  unfold gardA gardP
  rw [hr.st, hr.rk, sort_P h, dry_is hr.dr]
theorem read_plan_rows {p : WPlan} (h : PlanOk p) {rs : List ARow} (hr : RowsOk p rs) {gs : List (List Nat × List Nat)} (hg : Gapped gs) (hw : gs.map (·.2) = rowsT (.round p.len :: .opn p.most :: .valves p.names :: rs)) : readP (textW gs) = .ok (gardP p) := by
  rw [← gard_rows h hr]
  exact read_rows hg hw h.l1 h.l2 h.m1 h.m2 (fun e => by have := h.n1; rw [e] at this; cases this) (fun x hx => pool_name x (h.np x hx)) h.nd h.n2 (fun r hr' => (hr.ok r hr').1) (fun r hr' => (hr.ok r hr').2) hr.ns hr.nr
/-! #### the canonical rows -/
def arowsP (p : WPlan) : List ARow := (if p.ranks = List.range p.names.length then [] else [.rank (p.ranks.map (nmP p))]) ++ p.starts.map (startR p) ++ (runsA p.paused).map fun r => .pause r.1 r.2
theorem rows_arows (p : WPlan) : rowsP p = (ARow.round p.len :: .opn p.most :: .valves p.names :: arowsP p).map ARow.w := by
  unfold rowsP arowsP
  simp only [List.map_cons, List.map_append, List.map_map]
  split <;> rfl
theorem names_ok {p : WPlan} (h : PlanOk p) : (p.ranks.map (nmP p)).Nodup ∧ (∀ x ∈ p.ranks.map (nmP p), x ∈ p.names) ∧ (p.ranks.map (nmP p)).map p.names.idxOf = p.ranks := by
  have hv : ∀ v ∈ p.ranks, v < p.names.length := fun v hv => List.mem_range.mp (h.rk.mem_iff.mp hv)
  have e : (p.ranks.map (nmP p)).map p.names.idxOf = p.ranks := by
    rw [List.map_map]
    refine (List.map_congr_left fun v hv' => ?_).trans (List.map_id _)
    exact nmP_idx h.nd (hv v hv')
  refine ⟨?_, fun x hx => ?_, e⟩
  · have : ((p.ranks.map (nmP p)).map p.names.idxOf).Nodup := by
      rw [e]
      exact h.rk.nodup_iff.mpr List.nodup_range
    exact List.Pairwise.of_map p.names.idxOf (fun a b hne e => hne (by rw [e])) this
  · obtain ⟨v, hv', rfl⟩ := List.mem_map.mp hx
    exact nmP_in (hv v hv')
theorem pauses_rows {l : List (Nat × Nat)} {t : Nat} : (∃ a b, ARow.pause a b ∈ l.map (fun r => ARow.pause r.1 r.2) ∧ a ≤ t ∧ t ≤ b) ↔ InRuns l t := by
  constructor
  · rintro ⟨a, b, hm, h1, h2⟩
    obtain ⟨r, hr, e⟩ := List.mem_map.mp hm
    cases e
    exact ⟨r, hr, h1, h2⟩
  · rintro ⟨r, hr, h1, h2⟩
    exact ⟨r.1, r.2, List.mem_map_of_mem hr, h1, h2⟩
theorem filter_map_none {α β : Type} {f : α → Option β} : ∀ {l : List α}, (∀ x ∈ l, f x = none) → l.filterMap f = []
  | [], _ => rfl
  | x :: l, h => by
    rw [List.filterMap_cons, h x (List.mem_cons_self ..)]
    exact filter_map_none fun y hy => h y (List.mem_cons_of_mem _ hy)
theorem foldl_id {α β : Type} {f : β → α → β} : ∀ {l : List α} {b : β}, (∀ x ∈ l, ∀ b, f b x = b) → l.foldl f b = b
  | [], _, _ => rfl
  | x :: l, b, h => by
    rw [List.foldl_cons, h x (List.mem_cons_self ..)]
    exact foldl_id fun y hy => h y (List.mem_cons_of_mem _ hy)
theorem arows_ok {p : WPlan} (h : PlanOk p) : RowsOk p (arowsP p) := by
  have hG := plan_good h
  have l2 := h.l2
  have hv : ∀ v ∈ p.ranks, v < p.names.length := fun v hv => List.mem_range.mp (h.rk.mem_iff.mp hv)
  obtain ⟨k1, k2, k3⟩ := names_ok h
  obtain ⟨r1, r2⟩ := runsA_in p.paused _ rfl h.ql
  have hst : ∀ x ∈ p.starts, (startR p x).ok ∧ (startR p x).good p.len p.names := fun x hx => by
    obtain ⟨a, b, c, d⟩ := h.st x hx
    exact ⟨⟨pool_name _ (h.np _ (nmP_in b)), by omega, by omega⟩, ⟨nmP_in b, a, c, d⟩⟩
  have hpa : ∀ r ∈ runsA p.paused, (ARow.pause r.1 r.2).ok ∧ (ARow.pause r.1 r.2).good p.len p.names := fun r hr => by
    obtain ⟨a, b⟩ := r2 r hr
    have := h.qk r.2 b
    exact ⟨⟨by omega, by omega⟩, ⟨a, this⟩⟩
  have hn1 : p.ranks ≠ [] := fun e => by
    have := h.rk.length_eq
    have := h.n1
    rw [e] at *
    simp at *
    omega
  have hrk : (ARow.rank (p.ranks.map (nmP p))).ok ∧ (ARow.rank (p.ranks.map (nmP p))).good p.len p.names := ⟨⟨fun e => hn1 (List.map_eq_nil_iff.mp e), fun x hx => pool_name _ (h.np _ (k2 x hx))⟩, ⟨k1, k2⟩⟩
  have s1 : (p.starts.map (startR p)).filterMap (startA p.names) = p.starts := start_back h p.starts fun x hx => (h.st x hx).2.1
  have p1 : ((runsA p.paused).map fun r => ARow.pause r.1 r.2).filterMap (startA p.names) = [] := filter_map_none fun x hx => by
    obtain ⟨r, _, rfl⟩ := List.mem_map.mp hx
    rfl
  have p2 : ((runsA p.paused).map fun r => ARow.pause r.1 r.2).filter ARow.isStart = [] := List.filter_eq_nil_iff.mpr fun x hx => by
    obtain ⟨r, _, rfl⟩ := List.mem_map.mp hx
    simp [ARow.isStart]
  have p3 : ((runsA p.paused).map fun r => ARow.pause r.1 r.2).filter ARow.isRank = [] := List.filter_eq_nil_iff.mpr fun x hx => by
    obtain ⟨r, _, rfl⟩ := List.mem_map.mp hx
    simp [ARow.isRank]
  have s3 : (p.starts.map (startR p)).filter ARow.isRank = [] := List.filter_eq_nil_iff.mpr fun x hx => by
    obtain ⟨r, _, rfl⟩ := List.mem_map.mp hx
    simp [ARow.isRank, startR]
  have f1 : ∀ (l : List ARow) (q : List Nat), (∀ x ∈ l, x.isRank = false) → l.foldl (rank1 p.names) q = q := fun l q hl => foldl_id fun x hx b => by
    have := hl x hx
    cases x <;> first | rfl | cases this
  have tailR : ∀ x ∈ p.starts.map (startR p) ++ (runsA p.paused).map (fun r => ARow.pause r.1 r.2), x.isRank = false := fun x hx => by
    rcases List.mem_append.mp hx with hx | hx
    · obtain ⟨r, _, rfl⟩ := List.mem_map.mp hx
      rfl
    · obtain ⟨r, _, rfl⟩ := List.mem_map.mp hx
      rfl
  have hd : ∀ x ∈ (if p.ranks = List.range p.names.length then [] else [ARow.rank (p.ranks.map (nmP p))]), x = ARow.rank (p.ranks.map (nmP p)) := fun x hx => by
    split at hx
    · cases hx
    · exact List.mem_singleton.mp hx
  refine ⟨fun r hr => ?_, ?_, ?_, ?_, ?_, fun t ht => ?_, fun q hq => ?_⟩
  · unfold arowsP at hr
    rcases List.mem_append.mp hr with hr | hr
    · rcases List.mem_append.mp hr with hr | hr
      · rw [hd r hr]
        exact hrk
      · obtain ⟨x, hx, rfl⟩ := List.mem_map.mp hr
        exact hst x hx
    · obtain ⟨x, hx, rfl⟩ := List.mem_map.mp hr
      exact hpa x hx
  · unfold arowsP
    rw [List.filterMap_append, List.filterMap_append, s1, p1, List.append_nil, filter_map_none (fun x hx => by rw [hd x hx]; rfl), List.nil_append]
  · unfold nStarts arowsP
    rw [List.filter_append, List.filter_append, p2, List.append_nil, List.filter_eq_nil_iff.mpr (fun x hx => by rw [hd x hx]; simp [ARow.isStart]), List.nil_append]
    have := List.length_filter_le ARow.isStart (p.starts.map (startR p))
    rw [List.length_map] at this
    have := h.sl
    omega
  · unfold nRanks arowsP
    rw [List.filter_append, List.filter_append, p3, s3, List.append_nil, List.append_nil]
    refine Nat.le_trans (List.length_filter_le _ _) ?_
    split <;> simp
  · unfold rankA arowsP
    by_cases hr : p.ranks = List.range p.names.length
    · rw [if_pos hr, List.nil_append, f1 _ _ tailR, List.nil_append, hr]
      exact List.filter_eq_self.mpr fun v _ => by simp
    · rw [if_neg hr, List.append_assoc, List.foldl_append, f1 _ _ tailR]
      show (p.ranks.map (nmP p)).map p.names.idxOf ++ _ = _
      rw [k3]
      have : (List.range p.names.length).filter (fun v => decide (v ∉ [ARow.rank (p.ranks.map (nmP p))].foldl (rank1 p.names) [])) = [] := List.filter_eq_nil_iff.mpr fun v hv' => by
        show ¬ decide (v ∉ (p.ranks.map (nmP p)).map p.names.idxOf) = true
        rw [k3, decide_eq_true_eq]
        exact fun hn => hn (h.rk.mem_iff.mpr hv')
      rw [this, List.append_nil]
  · rw [← r1 t, ← pauses_rows]
    unfold PausedBy arowsP
    constructor
    · rintro ⟨a, b, hm, hh⟩
      rcases List.mem_append.mp hm with hm | hm
      · rcases List.mem_append.mp hm with hm | hm
        · cases hd _ hm
        · obtain ⟨x, _, e⟩ := List.mem_map.mp hm
          cases e
      · exact ⟨a, b, hm, hh⟩
    · rintro ⟨a, b, hm, hh⟩
      exact ⟨a, b, List.mem_append_right _ hm, hh⟩
  · unfold arowsP at hq
    rcases List.mem_append.mp hq with hq | hq
    · rcases List.mem_append.mp hq with hq | hq
      · have := ARow.rank.inj (hd _ hq)
        rw [this, List.length_map, h.rk.length_eq, List.length_range]
        exact h.n2
      · obtain ⟨x, _, e⟩ := List.mem_map.mp hq
        cases e
    · obtain ⟨x, _, e⟩ := List.mem_map.mp hq
      cases e
/-! #### the canonical text as gaps and words -/
def rowG (g : List Nat) : List (List Nat) → List (List Nat × List Nat)
  | [] => [([], [59])]
  | w :: ws => (g, w) :: (ws.map (fun x => ([32], x)) ++ [([], [59])])
theorem textW_app : ∀ (a b : List (List Nat × List Nat)), textW (a ++ b) = textW a ++ textW b
  | [], b => rfl
  | (g, z) :: a, b => by
    show g ++ (z ++ textW (a ++ b)) = g ++ (z ++ textW a) ++ textW b
    rw [textW_app a b, List.append_assoc, List.append_assoc]
theorem textW_row (g : List Nat) {r : List (List Nat)} (h : r ≠ []) : textW (rowG g r) = g ++ (TL.joinL [32] r ++ [59]) := by
  cases r with
  | nil => exact absurd rfl h
  | cons w ws =>
    show g ++ (w ++ textW (ws.map (fun x => ([32], x)) ++ [([], [59])])) = _
    congr 1
    clear h
    induction ws generalizing w with
    | nil => rfl
    | cons v ws ih =>
      show w ++ ([32] ++ (v ++ textW (ws.map (fun x => ([32], x)) ++ [([], [59])]))) = (w ++ ([32] ++ TL.joinL [32] (v :: ws))) ++ [59]
      rw [ih v]
      simp
theorem gapped_app : ∀ (a b : List (List Nat × List Nat)), Gapped a → Gapped b → (∀ g z q, b = (g, z) :: q → g ≠ [] ∨ z = [59]) → Gapped (a ++ b)
  | [], b, _, hb, _ => hb
  | (g, z) :: a, b, ha, hb, h => by
    obtain ⟨h1, h2, h3, h4⟩ := ha
    refine ⟨h1, h2, fun g2 z2 q e => ?_, gapped_app a b h4 hb h⟩
    cases a with
    | nil => exact h g2 z2 q e
    | cons y a =>
      have e : y :: (a ++ b) = (g2, z2) :: q := e
      rw [List.cons.injEq] at e
      exact h3 g2 z2 a (by rw [e.1])
theorem gapped_row {g : List Nat} (hg : GapW g) {r : List (List Nat)} (h : ∀ w ∈ r, OkW w) : Gapped (rowG g r) := by
  have semi : OkW [59] := .inl rfl
  have nogap : GapW [] := fun c hc => by cases hc
  cases r with
  | nil => exact ⟨nogap, semi, fun _ _ _ e => (by cases e), True.intro⟩
  | cons w ws =>
    have key : ∀ vs : List (List Nat), (∀ v ∈ vs, OkW v) → Gapped (vs.map (fun x => ([32], x)) ++ [([], [59])]) ∧ (∀ g2 z2 q, vs.map (fun x => (([32] : List Nat), x)) ++ [([], [59])] = (g2, z2) :: q → g2 ≠ [] ∨ z2 = [59]) := by
      intro vs
      induction vs with
      | nil =>
        intro _
        refine ⟨⟨nogap, semi, fun _ _ _ e => (by cases e), True.intro⟩, fun g2 z2 q e => ?_⟩
        obtain ⟨e1, _⟩ := List.cons.inj e
        exact .inr (Prod.mk.inj e1).2.symm
      | cons v vs ih =>
        intro hv
        obtain ⟨i1, i2⟩ := ih fun x hx => hv x (List.mem_cons_of_mem _ hx)
        refine ⟨⟨fun c hc => .inl (List.mem_singleton.mp hc), hv v (List.mem_cons_self ..), i2, i1⟩, fun g2 z2 q e => ?_⟩
        obtain ⟨e1, _⟩ := List.cons.inj e
        refine .inl fun z => ?_
        rw [← (Prod.mk.inj e1).1] at z
        cases z
    obtain ⟨k1, k2⟩ := key ws fun v hv => h v (List.mem_cons_of_mem _ hv)
    exact ⟨hg, h w (List.mem_cons_self ..), k2, k1⟩
def rowsG : List (List (List Nat)) → List (List Nat × List Nat)
  | [] => []
  | r :: rs => rowG [] r ++ rs.flatMap (rowG [10])
theorem rowsG_words (rs : List (List (List Nat))) : (rowsG rs).map (·.2) = rs.flatMap fun r => r ++ [[59]] := by
  have one : ∀ g r, (rowG g r).map (·.2) = r ++ [[59]] := by
    intro g r
    cases r with
    | nil => rfl
    | cons w ws =>
      show w :: (ws.map (fun x => (([32] : List Nat), x)) ++ [(([] : List Nat), ([59] : List Nat))]).map (fun x : List Nat × List Nat => x.2) = _
      rw [List.map_append, List.map_map]
      show w :: (ws.map id ++ [[59]]) = _
      rw [List.map_id]
      rfl
  cases rs with
  | nil => rfl
  | cons r rs =>
    show (rowG [] r ++ rs.flatMap (rowG [10])).map (·.2) = (r ++ [[59]]) ++ rs.flatMap _
    rw [List.map_append, one, List.map_flatMap]
    congr 1
    have : (fun x : List (List Nat) => (rowG [10] x).map (·.2)) = fun r => r ++ [[59]] := funext fun x => one [10] x
    rw [this]
theorem rowsG_text : ∀ (rs : List (List (List Nat))), (∀ r ∈ rs, r ≠ []) → textW (rowsG rs) = TL.joinL [10] (rs.map fun r => TL.joinL [32] r ++ [59]) := by
  have key : ∀ rs : List (List (List Nat)), (∀ r ∈ rs, r ≠ []) → ∀ x : List Nat, x ++ textW (rs.flatMap (rowG [10])) = TL.joinL [10] (x :: rs.map fun r => TL.joinL [32] r ++ [59]) := by
    intro rs
    induction rs with
    | nil => intro _ x; exact List.append_nil x
    | cons r rs ih =>
      intro h x
      show x ++ textW (rowG [10] r ++ rs.flatMap (rowG [10])) = x ++ ([10] ++ TL.joinL [10] ((TL.joinL [32] r ++ [59]) :: rs.map fun r => TL.joinL [32] r ++ [59]))
      rw [textW_app, textW_row _ (h r (List.mem_cons_self ..)), ← ih (fun q hq => h q (List.mem_cons_of_mem _ hq))]
      simp
  intro rs h
  cases rs with
  | nil => rfl
  | cons r rs =>
    show textW (rowG [] r ++ rs.flatMap (rowG [10])) = _
    rw [textW_app, textW_row _ (h r (List.mem_cons_self ..)), List.nil_append, key rs fun q hq => h q (List.mem_cons_of_mem _ hq)]
    rfl
theorem rowsG_gap : ∀ (rs : List (List (List Nat))), (∀ r ∈ rs, r ≠ [] ∧ ∀ w ∈ r, OkW w) → Gapped (rowsG rs) := by
  have g10 : GapW [10] := fun c hc => .inr (List.mem_singleton.mp hc)
  have key : ∀ rs : List (List (List Nat)), (∀ r ∈ rs, r ≠ [] ∧ ∀ w ∈ r, OkW w) → Gapped (rs.flatMap (rowG [10])) ∧ ∀ g z q, rs.flatMap (rowG [10]) = (g, z) :: q → g ≠ [] ∨ z = [59] := by
    intro rs
    induction rs with
    | nil => intro _; exact ⟨True.intro, fun g z q e => (by cases e)⟩
    | cons r rs ih =>
      intro h
      obtain ⟨i1, i2⟩ := ih fun q hq => h q (List.mem_cons_of_mem _ hq)
      obtain ⟨h1, h2⟩ := h r (List.mem_cons_self ..)
      refine ⟨gapped_app _ _ (gapped_row g10 h2) i1 i2, fun g z q e => .inl fun eg => ?_⟩
      cases r with
      | nil => exact h1 rfl
      | cons w ws =>
        have e : ([10], w) :: _ = (g, z) :: q := e
        rw [← (Prod.mk.inj (List.cons.inj e).1).1] at eg
        cases eg
  intro rs h
  cases rs with
  | nil => exact True.intro
  | cons r rs =>
    obtain ⟨k1, k2⟩ := key rs fun q hq => h q (List.mem_cons_of_mem _ hq)
    exact gapped_app _ _ (gapped_row (fun c hc => by cases hc) (h r (List.mem_cons_self ..)).2) k1 k2
theorem rowsT_map (rs : List ARow) : (rs.map ARow.w).flatMap (fun r => r ++ [[59]]) = rowsT rs := by
  unfold rowsT
  rw [List.flatMap_map]
theorem head_ok {p : WPlan} (h : PlanOk p) {rs : List ARow} (hr : ∀ r ∈ rs, r.ok) : ∀ r ∈ (ARow.round p.len :: .opn p.most :: .valves p.names :: rs), r.ok := by
  intro r hr'
  have := h.l2
  have := h.m2
  rcases List.mem_cons.mp hr' with rfl | hr'
  · show p.len ≤ 99
    omega
  rcases List.mem_cons.mp hr' with rfl | hr'
  · show p.most ≤ 99
    omega
  rcases List.mem_cons.mp hr' with rfl | hr'
  · exact ⟨fun e => (by have := h.n1; rw [e] at this; cases this), fun x hx => pool_name x (h.np x hx)⟩
  · exact hr r hr'
/-- THE canonical text of a plan is read as its garden -/
theorem read_P {p : WPlan} (h : PlanOk p) : readP (textP p) = .ok (gardP p) := by
  have hr := arows_ok h
  have hok := head_ok h fun r hr' => (hr.ok r hr').1
  have hw : ∀ r ∈ rowsP p, r ≠ [] ∧ ∀ w ∈ r, OkW w := by
    rw [rows_arows]
    intro r hr'
    obtain ⟨a, ha, rfl⟩ := List.mem_map.mp hr'
    exact ⟨List.cons_ne_nil _ _, fun w hw => row_okW (hok a ha) w (List.mem_append_left _ hw)⟩
  have e : textP p = textW (rowsG (rowsP p)) := (rowsG_text _ fun r hr' => (hw r hr').1).symm
  rw [e]
  refine read_plan_rows h hr (rowsG_gap _ hw) ?_
  rw [rowsG_words, rows_arows, rowsT_map]
theorem okW_len {w : List Nat} (h : OkW w) : w.length ≤ 8 := by
  rcases h with rfl | ⟨_, h, _⟩ | ⟨h, _⟩
  · decide
  · exact h
  · unfold isNumber at h
    split at h
    · cases h
    · rename_i h2
      rw [not_or] at h2
      omega
theorem row_len {p : WPlan} (hO : PlanOk p) {rs : List ARow} (hr : RowsOk p rs) {r : ARow} (h : r ∈ (ARow.round p.len :: .opn p.most :: .valves p.names :: rs)) : r.w.length ≤ 9 := by
  have h2 := hO.n2
  rcases List.mem_cons.mp h with rfl | h
  · exact (by decide : 2 ≤ 9)
  rcases List.mem_cons.mp h with rfl | h
  · exact (by decide : 2 ≤ 9)
  rcases List.mem_cons.mp h with rfl | h
  · show p.names.length + 1 ≤ 9
    omega
  have hg := (hr.ok r h).2
  cases r with
  | round n => exact hg.elim
  | opn n => exact hg.elim
  | valves n => exact hg.elim
  | rank q =>
    have := hr.rl q h
    show q.length + 1 ≤ 9
    omega
  | start a b c => exact (by decide : 5 ≤ 9)
  | pause a b => exact (by decide : 3 ≤ 9)
/-- lengths of a text of rows -/
theorem rowsT_len {p : WPlan} (hO : PlanOk p) {rs : List ARow} (hr : RowsOk p rs) (hl : rs.length ≤ 150) : (rowsT (ARow.round p.len :: .opn p.most :: .valves p.names :: rs)).length ≤ 1530 := by
  have key : ∀ l : List ARow, (∀ r ∈ l, r.w.length ≤ 9) → (rowsT l).length ≤ 10 * l.length := by
    intro l
    induction l with
    | nil => intro _; exact Nat.le_refl _
    | cons r l ih =>
      intro h
      have h1 := h r (List.mem_cons_self ..)
      have h2 := ih fun x hx => h x (List.mem_cons_of_mem _ hx)
      show ((r.w ++ [[59]]) ++ rowsT l).length ≤ _
      rw [List.length_append, List.length_append, List.length_singleton, List.length_cons]
      omega
  have := key _ fun r h => row_len hO hr h
  simp only [List.length_cons] at this
  omega
theorem textW_len {gs : List (List Nat × List Nat)} (h : ∀ x ∈ gs, x.1.length ≤ 2 ∧ x.2.length ≤ 8) : (textW gs).length ≤ 10 * gs.length := by
  induction gs with
  | nil => exact Nat.le_refl _
  | cons x gs ih =>
    obtain ⟨g, z⟩ := x
    obtain ⟨h1, h2⟩ := h (g, z) (List.mem_cons_self ..)
    have := ih fun y hy => h y (List.mem_cons_of_mem _ hy)
    show (g ++ (z ++ textW gs)).length ≤ _
    dsimp only at h1 h2
    rw [List.length_append, List.length_append, List.length_cons]
    omega
theorem textP_short {p : WPlan} (hO : PlanOk p) : (textP p).length ≤ 40000 := by
  have hr := arows_ok hO
  have hok := head_ok hO fun r hr' => (hr.ok r hr').1
  have hw : ∀ r ∈ rowsP p, r ≠ [] ∧ ∀ w ∈ r, OkW w := by
    rw [rows_arows]
    intro r hr'
    obtain ⟨a, ha, rfl⟩ := List.mem_map.mp hr'
    exact ⟨List.cons_ne_nil _ _, fun w hw => row_okW (hok a ha) w (List.mem_append_left _ hw)⟩
  have hl : (arowsP p).length ≤ 150 := by
    have := rowsP_len (plan_good hO)
    rw [rows_arows, List.length_map] at this
    simp only [List.length_cons] at this
    omega
  have e : textP p = textW (rowsG (rowsP p)) := (rowsG_text _ fun r hr' => (hw r hr').1).symm
  have hn : (rowsG (rowsP p)).length ≤ 1530 := by
    have h1 := congrArg List.length (rowsG_words (rowsP p))
    rw [List.length_map, rows_arows, rowsT_map] at h1
    rw [rows_arows, h1]
    exact rowsT_len hO hr hl
  have hg : ∀ x ∈ rowsG (rowsP p), x.1.length ≤ 2 ∧ x.2.length ≤ 8 := by
    have one : ∀ g r, g.length ≤ 2 → (∀ w ∈ r, OkW w) → ∀ x ∈ rowG g r, x.1.length ≤ 2 ∧ x.2.length ≤ 8 := by
      intro g r hg hr x hx
      cases r with
      | nil =>
        obtain rfl := List.mem_singleton.mp hx
        exact ⟨by decide, by decide⟩
      | cons w ws =>
        rcases List.mem_cons.mp hx with rfl | hx
        · exact ⟨hg, okW_len (hr _ (List.mem_cons_self ..))⟩
        · rcases List.mem_append.mp hx with hx | hx
          · obtain ⟨v, hv, rfl⟩ := List.mem_map.mp hx
            exact ⟨(by decide : 1 ≤ 2), okW_len (hr _ (List.mem_cons_of_mem _ hv))⟩
          · obtain rfl := List.mem_singleton.mp hx
            exact ⟨by decide, by decide⟩
    intro x hx
    have hx : x ∈ rowsG (rowsP p) := hx
    cases hq : rowsP p with
    | nil =>
      rw [hq] at hx
      cases hx
    | cons r rest =>
      rw [hq] at hx hw
      rcases List.mem_append.mp hx with hx | hx
      · exact one [] r (by decide) (hw r (List.mem_cons_self ..)).2 x hx
      · obtain ⟨q, hq2, hx⟩ := List.mem_flatMap.mp hx
        exact one [10] q (by decide) (hw q (List.mem_cons_of_mem _ hq2)).2 x hx
  rw [e]
  have := textW_len hg
  omega

end Wv
end WvTP_
section WvRW_
set_option Elab.async false
set_option linter.all false
set_option maxRecDepth 100000
set_option maxHeartbeats 4000000
namespace Wv
open PySem L2
open SX (S S_len S_inj)
local macro_rules | `(tactic| walk_at "rd") => `(tactic| (try simp only [tVar, tC, tB, tAnd, tOr, tNot, tAndV, tOrV, tNotV, tIf, tNext, tSeq, tBreak, tCont, tDrop, tRet, tRetN, tIfS, gName, gNil, gCons, gTup, gSub, tAsg, tPar, tAug, tOp, tUn, rI, rI0, rU, rEq, rNe, tTest, tFld, tNil, tCons, tTup, tLst, tCB, tNoPart, tPart, tSl, rIxL, rIxT, rIxS, rSlL, rSlS, tBM0, tBM, rAppend, rExtend, rCat, rRep, rSetL, tM0, tM1, tCall, tMeth, tMake, sFld, sFldAug, rAdd, rSub, ipI, tBM0,
  scal_ss, scal_ii, scal_bb, scal_ns, scal_sn, scal_nn, tyV_str, L2.start, List.map_cons, List.map_nil, List.length_cons, List.length_nil, List.replicate, List.cons_append, List.nil_append, List.append_nil, List.getElem?_cons_zero, List.getElem?_cons_succ, List.set_cons_zero, List.set_cons_succ, Nat.reduceAdd, Nat.reduceSub, Nat.zero_add, Nat.sub_self, Nat.add_one_sub_one,
  Option.some.injEq, exists_eq_left, exists_eq_left', exists_eq', exists_eq, V.int.injEq, V.str.injEq, V.ref.injEq, V.bl.injEq, reduceCtorEq, List.cons.injEq, and_true, true_and, exists_and_left, exists_and_right, and_assoc, decide_true, decide_false, if_true, if_false, ite_true, ite_false, Bool.false_eq_true, Bool.true_eq_false, eq_self_iff_true, cx_K, nox_K, tMkSyn, tMkChk, tYes, bne, ne_eq, not_false_eq_true, not_true_eq_false, Bool.not_true, Bool.not_false, decide_eq_true_eq, Bool.not_eq_true', decide_eq_false_iff_not]))
open LamX
def sgW (d : Addr) (n m : Nat) (na : Addr) (L : Nat) (v5 v6 v7 v8 v9 v10 v11 : Option V) : L2.St := [some (.ref d), some (.int (n : Nat)), some (.int (m : Nat)), some (.ref na), some (.int (L : Nat)), v5, v6, v7, v8, v9, v10, v11, none]
section
variable {P : Program} {w : World} {K : PySem.W.Frag} {mg : Str → Option Value} {base : Heap}
theorem sc__law_wide : FnScope ["_law_d", "_law_most", "_law_many", "_law_names", "_law_length", "_law_starts", "_law_k", "_law_drops", "_law_paused", "_law_share", "_law_ranks", "_law_places", "_law_one"] ["_law_d", "_law_most"] (defScope s__law_wide) := ⟨rfl, rfl, rfl, by decide +kernel, rfl, by decide +kernel, by decide +kernel⟩
def sp__law_wide : Sp := fun vs H Q _ => ∃ (d : Addr) (n : Nat), vs = [.ref d, .int (n : Nat)] ∧ 1 ≤ n ∧ n ≤ 8 ∧ GoodD H d ∧
  ∀ pl p H', Stp d H H' → H pl = none → PlanAt (hide H' d) pl p → PlanOk p → p.names.length ≤ n → Q (.ref pl) H'
theorem ok__law_wide {f : Addr} {fd : FuncData} (F : Fun K "_law_wide" "_law_wide" s__law_wide f fd) (T : TopF w K mg)
    (D__law_below : DF P w K mg base CX0 1 "_law_below" ["_law_d", "_law_limit"] sp__law_below) (D__law_shuffled : DF P w K mg base CX0 2 "_law_shuffled" ["_law_d", "_law_items"] (sp__law_shuffled K)) : FnOk P w K mg base CX0 3 f fd ["_law_d", "_law_most"] sp__law_wide := by
  refine F.ok sc__law_wide (fun vs H Q E h => ?_) (fun cdv A outer s H vs Q E hr h => ?_)
  · obtain ⟨d, n, rfl, _⟩ := h
    rfl
  · obtain ⟨d, n, rfl, hn1, hn2, gd, k⟩ := h
    refine ⟨_, (pss_cons (ps_set (i := 2) sc__law_wide.nd rfl (Or.inl rfl) (pe_op op_add pe_int (pe_call D__law_below.G (hr.mono (by decide)) rfl D__law_below.mg D__law_below.kp D__law_below.b .nil pass0 (pa_cons (pv 0) (pa_cons (pv 1) pa_nil)))))
      (pss_cons (ps_set (i := 3) sc__law_wide.nd rfl (Or.inl rfl) (pe_callTy call_tuple_of (by rfl) T.z_tuple (by decide +kernel) (pa_cons (pe_slice sl_list (pe_call D__law_shuffled.G (hr.mono (by decide)) rfl D__law_shuffled.mg D__law_shuffled.kp D__law_shuffled.b .nil pass0 (pa_cons (pv 0) (pa_cons (pe_lst (pa_cons pe_str (pa_cons pe_str (pa_cons pe_str (pa_cons pe_str (pa_cons pe_str (pa_cons pe_str (pa_cons pe_str (pa_cons pe_str pa_nil))))))))) pa_nil))) po_none (po_some (pv 2))) pa_nil)))
      (pss_cons (ps_set (i := 4) sc__law_wide.nd rfl (Or.inl rfl) (pe_op op_add pe_int (pe_call D__law_below.G (hr.mono (by decide)) rfl D__law_below.mg D__law_below.kp D__law_below.b .nil pass0 (pa_cons (pv 0) (pa_cons (pe_ix ix_list (pe_lst (pa_cons pe_int (pa_cons pe_int (pa_cons pe_int pa_nil)))) (pe_call D__law_below.G (hr.mono (by decide)) rfl D__law_below.mg D__law_below.kp D__law_below.b .nil pass0 (pa_cons (pv 0) (pa_cons pe_int pa_nil))) (fun _ _ => rfl)) pa_nil)))))
      (pss_cons (ps_set (i := 5) sc__law_wide.nd rfl (Or.inr rfl) (pe_lst pa_nil))
      (pss_cons (ps_for PassesOwn.never rfl (pi_range1 (by rfl) T.z_range (pa_cons (pe_call D__law_below.G (hr.mono (by decide)) rfl D__law_below.mg D__law_below.kp D__law_below.b .nil pass0 (pa_cons (pv 0) (pa_cons (pe_ix ix_list (pe_lst (pa_cons pe_int (pa_cons pe_int (pa_cons pe_int pa_nil)))) (pe_call D__law_below.G (hr.mono (by decide)) rfl D__law_below.mg D__law_below.kp D__law_below.b .nil pass0 (pa_cons (pv 0) (pa_cons pe_int pa_nil))) (fun _ _ => rfl)) pa_nil))) pa_nil)) (pg_name (i := 6) sc__law_wide.nd rfl (Or.inl rfl)) (pss_cons (ps_set (i := 7) sc__law_wide.nd rfl (Or.inl rfl) (pe_op op_add pe_int (pe_call D__law_below.G (hr.mono (by decide)) rfl D__law_below.mg D__law_below.kp D__law_below.b .nil pass0 (pa_cons (pv 0) (pa_cons (pe_ix ix_list (pe_lst (pa_cons pe_int (pa_cons pe_int (pa_cons pe_int pa_nil)))) (pe_call D__law_below.G (hr.mono (by decide)) rfl D__law_below.mg D__law_below.kp D__law_below.b .nil pass0 (pa_cons (pv 0) (pa_cons pe_int pa_nil))) (fun _ _ => rfl)) pa_nil)))))
      (pss_one (ps_expr (pe_bm PySem.F.plainAttrs_list PySem.F.slot_list_append PySem.F.type_list_append mt_append (pv 5) (pa_cons (pe_tup (pa_cons (pe_call D__law_below.G (hr.mono (by decide)) rfl D__law_below.mg D__law_below.kp D__law_below.b .nil pass0 (pa_cons (pv 0) (pa_cons (pv 4) pa_nil))) (pa_cons (pe_call D__law_below.G (hr.mono (by decide)) rfl D__law_below.mg D__law_below.kp D__law_below.b .nil pass0 (pa_cons (pv 0) (pa_cons (pv 2) pa_nil))) (pa_cons (pv 7) pa_nil)))) pa_nil))))))
      (pss_cons (ps_set (i := 8) sc__law_wide.nd rfl (Or.inl rfl) (pe_lst pa_nil))
      (pss_cons (ps_if (pt_cmpR op_eq (pe_call D__law_below.G (hr.mono (by decide)) rfl D__law_below.mg D__law_below.kp D__law_below.b .nil pass0 (pa_cons (pv 0) (pa_cons pe_int pa_nil))) pe_int (nomark _)) (pss_cons (ps_set (i := 9) sc__law_wide.nd rfl (Or.inr rfl) (pe_op op_add pe_int (pe_call D__law_below.G (hr.mono (by decide)) rfl D__law_below.mg D__law_below.kp D__law_below.b .nil pass0 (pa_cons (pv 0) (pa_cons pe_int pa_nil)))))
      (pss_one (ps_setLc (i := 8) (own := [("_law_k", 6)]) (g := gName 6) (tt := (tTest (tOp _ (tCall sp__law_below [] E0 (tCons (tVar 0) (tCons (tC (.int 4)) tNil))) (tVar 9)))) (te := (tVar 6)) (by rfl) sc__law_wide.nd rfl rfl (sw_true rfl rfl rfl (by decide +kernel)) (pi_range1 (by rfl) T.z_range (pa_cons (pv 4) pa_nil)) (blkOk_by (N := ["_law_d", "_law_most", "_law_many", "_law_names", "_law_length", "_law_starts", "_law_k", "_law_drops", "_law_paused", "_law_share", "_law_ranks", "_law_places", "_law_one"]) (sc := defScope s__law_wide) (by decide +kernel)) (fun _ _ _ _ _ => (pg_name (i := 6) sc__law_wide.nd rfl (Or.inl rfl))) (fun _ _ _ _ _ => pts_one (pt_cmpR op_lt (pe_call D__law_below.G (hr.mono (by decide)) rfl D__law_below.mg D__law_below.kp D__law_below.b .nil pass0 (pa_cons (pv 0) (pa_cons pe_int pa_nil))) (pv 9) (nomark _))) (fun _ _ _ _ _ => (pv 6))))) pss_nil)
      (pss_cons (ps_set (i := 10) sc__law_wide.nd rfl (Or.inl rfl) (pe_ifExp (pt_cmpR op_eq (pe_call D__law_below.G (hr.mono (by decide)) rfl D__law_below.mg D__law_below.kp D__law_below.b .nil pass0 (pa_cons (pv 0) (pa_cons pe_int pa_nil))) pe_int (nomark _)) (pe_listRg rfl (by rfl) T.z_list (prg_1 (by rfl) T.z_range (pv 2))) (pe_call D__law_shuffled.G (hr.mono (by decide)) rfl D__law_shuffled.mg D__law_shuffled.kp D__law_shuffled.b .nil pass0 (pa_cons (pv 0) (pa_cons (pe_listRg rfl (by rfl) T.z_list (prg_1 (by rfl) T.z_range (pv 2))) pa_nil)))))
      (pss_cons (ps_set (i := 11) sc__law_wide.nd rfl (Or.inl rfl) (pe_callB (cr_sortT (d := 3) (B := 1000) (by decide)) (by rfl) T.z_sorted (by decide +kernel) (pa_cons (pe_lc (own := [("_law_k", 6)]) (g := gName 6) (tt := tYes) (te := (tTup (tCons (tOp (rIxT K) (tOp (rIxL K) (tVar 5) (tVar 6)) (tC (.int 0))) (tCons (tOp (rIxT K) (tOp (rIxL K) (tVar 5) (tVar 6)) (tC (.int 1))) (tCons (tVar 6) tNil))))) rfl sc__law_wide.nd (pi_range1 (by rfl) T.z_range (pa_cons (pe_callB call_len_seq (by rfl) T.z_len (by decide +kernel) (pa_cons (pv 5) pa_nil)) pa_nil)) (blkOk_by (N := ["_law_d", "_law_most", "_law_many", "_law_names", "_law_length", "_law_starts", "_law_k", "_law_drops", "_law_paused", "_law_share", "_law_ranks", "_law_places", "_law_one"]) (sc := defScope s__law_wide) (by decide +kernel)) (fun _ _ _ _ _ => (pg_name (i := 6) sc__law_wide.nd rfl (Or.inl rfl))) (fun _ _ _ _ _ => pts_nil) (fun _ _ _ _ _ => (pe_tup (pa_cons (pe_ix ix_tup (pe_ix ix_list (pv 5) (pv 6) (fun _ _ => rfl)) pe_int (fun _ _ => rfl)) (pa_cons (pe_ix ix_tup (pe_ix ix_list (pv 5) (pv 6) (fun _ _ => rfl)) pe_int (fun _ _ => rfl)) (pa_cons (pv 6) pa_nil)))))) pa_nil)))
      (pss_cons (ps_set (i := 1) sc__law_wide.nd rfl (Or.inl rfl) (pe_op op_add pe_int (pe_call D__law_below.G (hr.mono (by decide)) rfl D__law_below.mg D__law_below.kp D__law_below.b .nil pass0 (pa_cons (pv 0) (pa_cons (pe_ix ix_list (pe_lst (pa_cons pe_int (pa_cons pe_int pa_nil))) (pe_call D__law_below.G (hr.mono (by decide)) rfl D__law_below.mg D__law_below.kp D__law_below.b .nil pass0 (pa_cons (pv 0) (pa_cons pe_int pa_nil))) (fun _ _ => rfl)) pa_nil)))))
      (pss_one (ps_ret (pe_tup (pa_cons (pv 4) (pa_cons (pv 1) (pa_cons (pv 3) (pa_cons (pv 10) (pa_cons (pe_lc (own := [("_law_one", 12)]) (g := gName 12) (tt := tYes) (te := (tOp (rIxL K) (tVar 5) (tOp (rIxT K) (tVar 12) (tC (.int 2))))) rfl sc__law_wide.nd (pi_list (pv 11)) (blkOk_by (N := ["_law_d", "_law_most", "_law_many", "_law_names", "_law_length", "_law_starts", "_law_k", "_law_drops", "_law_paused", "_law_share", "_law_ranks", "_law_places", "_law_one"]) (sc := defScope s__law_wide) (by decide +kernel)) (fun _ _ _ _ _ => (pg_name (i := 12) sc__law_wide.nd rfl (Or.inl rfl))) (fun _ _ _ _ _ => pts_nil) (fun _ _ _ _ _ => (pe_ix ix_list (pv 5) (pe_ix ix_tup (pv 12) pe_int (fun _ _ => rfl)) (fun _ _ => rfl)))) (pa_cons (pv 8) pa_nil))))))))))))))))))), ?_⟩
    refine seq_cut (fun σ H' => ∃ m : Nat, 1 ≤ m ∧ m ≤ n ∧ Stp d H H' ∧ σ = [some (.ref d), some (.int (n : Nat)), some (.int (m : Nat)), none, none, none, none, none, none, none, none, none, none]) (fun J hJ => ?_) ?_
    · walk_at "rd"
      exact blK n hn1 (by omega) gd fun r H' hr s => ⟨_, rfl, hJ _ _ ⟨1 + r, by omega, by omega, s, by rw [show (1 + (r : Int)) = ((1 + r : Nat) : Int) by omega]⟩⟩
    rintro _ H1 ⟨m, hm1, hm2, s1, rfl⟩
    refine seq_cut (fun σ H' => ∃ na ns, ns.length = m ∧ ns.Nodup ∧ (∀ n ∈ ns, n ∈ poolL) ∧ Stp d H H' ∧ AtD d H' na (.tup (strR ns)) ∧ σ = [some (.ref d), some (.int (n : Nat)), some (.int (m : Nat)), some (.ref na), none, none, none, none, none, none, none, none, none]) (fun J hJ => ?_) ?_
    · walk_at "rd"
      refine ⟨by decide, fun p np => ?_⟩
      rw [pool_eq]
      have s2 := s1.new (o := .lst (strR poolL)) np
      refine ⟨d, p, strR poolL, rfl, s2.g, .inl (SqL.of upd_same), flat_pool, by decide, fun ys q H2 hperm nq k2 hq gq => ?_⟩
      obtain ⟨zs, rfl, hz⟩ := perm_map_inv hperm poolL rfl
      have s3 : Stp d H H2 := s2.trans ⟨k2, gq⟩
      refine ⟨q, rfl, _, SqL.of hq, fun c nc => ⟨strR (zs.take m), .inl ⟨SqL.of ?_, fun l nl => hJ _ _ ⟨l, zs.take m, ?_, ?_, ?_, (s3.new nc).new nl, .new (s3.new nc).g nl, rfl⟩⟩⟩⟩
      · rw [upd_same, cut_take]
        unfold strR
        rw [List.map_take]
      · rw [List.length_take, hz.length_eq]
        show min m 8 = m
        omega
      · exact (hz.nodup_iff.mpr pool_nd).sublist (List.take_sublist _ _)
      · exact fun x hx => hz.mem_iff.mp (List.mem_of_mem_take hx)
    rintro _ H2 ⟨na, ns, hns, hnd, hnp, s2, hna, rfl⟩
    refine seq_cut (fun σ H' => ∃ L : Nat, 1 ≤ L ∧ L ≤ 60 ∧ Stp d H H' ∧ AtD d H' na (.tup (strR ns)) ∧ σ = sgW d n m na L none none none none none none none) (fun J hJ => ?_) ?_
    · walk_at "rd"
      exact ⟨by decide, fun p np => pickK [10, 24, 60] 60 3 rfl (by decide) (by decide) (by decide) (by decide) s2.g np fun r H' hr s => ⟨_, rfl, hJ _ _ ⟨1 + r, by omega, by omega, s2.trans s, hna.mono s, by rw [show (1 + (r : Int)) = ((1 + r : Nat) : Int) by omega]; rfl⟩⟩⟩
    rintro _ H3 ⟨L, hL1, hL2, s3, hna3, rfl⟩
    refine seq_cut (fun σ H' => ∃ sa, H sa = none ∧ Stp d H H' ∧ AtD d H' na (.tup (strR ns)) ∧ AtD d H' sa (.lst []) ∧ σ = sgW d n m na L (some (.ref sa)) none none none none none none) (fun J hJ => ?_) ?_
    · unfold sgW
      walk_at "rd"
      exact ⟨Nat.zero_le _, fun sa nsa => hJ _ _ ⟨sa, s3.free nsa, s3.new nsa, hna3.mono ((Stp.refl s3.g).new nsa), .new s3.g nsa, rfl⟩⟩
    rintro _ H4 ⟨sa, nsa, s4, hna4, hsa4, rfl⟩
    refine seq_cut (fun σ H' => ∃ (as : List Addr) (ts : List Tri) (v6 v7 : Option V), ts.length ≤ 12 ∧ (∀ x ∈ ts, x.1 < L ∧ x.2.1 < m ∧ 1 ≤ x.2.2 ∧ x.2.2 ≤ 30) ∧ Stp d H H' ∧ AtD d H' na (.tup (strR ns)) ∧ AtD d H' sa (.lst (as.map V.ref)) ∧ Each (TriAt (hide H' d)) as ts ∧ σ = sgW d n m na L (some (.ref sa)) v6 v7 none none none none) (fun J hJ => ?_) ?_
    · unfold sgW
      walk_at "rd"
      refine for_rg1 (fun r H' => r ≤ 12 ∧ Stp d H4 H') (fun r i σ H' => r ≤ 12 ∧ ∃ (as : List Addr) (ts : List Tri) (v6 v7 : Option V), ts.length = i ∧ (∀ x ∈ ts, x.1 < L ∧ x.2.1 < m ∧ 1 ≤ x.2.2 ∧ x.2.2 ≤ 30) ∧ Stp d H H' ∧ AtD d H' na (.tup (strR ns)) ∧ AtD d H' sa (.lst (as.map V.ref)) ∧ Each (TriAt (hide H' d)) as ts ∧ σ = sgW d n m na L (some (.ref sa)) v6 v7 none none none none)
        (fun B hB => ?_) (fun r H5 ⟨hr, s5⟩ => ⟨hr, [], [], none, none, rfl, (fun x h => by cases h), s4.trans s5, hna4.mono s5, hsa4.mono s5, Each.nil, rfl⟩) ?_ ?_
      · walk_at "rd"
        exact ⟨by decide, fun p np => pickK [4, 8, 13] 13 3 rfl (by decide) (by decide) (by decide) (by decide) s4.g np fun r H5 hr s5 => ⟨r, rfl, by omega, by omega, hB _ _ ⟨by rw [Int.toNat_natCast]; omega, s5⟩⟩⟩
      · rintro r i σ H6 hi ⟨hr7, as, ts, v6, v7, hl, hts, s6, hna6, hsa6, hE6, rfl⟩
        unfold sgW
        walk_at "rd"
        refine ⟨by decide, fun p np => pickK [4, 10, 30] 30 3 rfl (by decide) (by decide) (by decide) (by decide) s6.g np fun q H7 hq s7 => ⟨_, rfl, tyV_lst (hsa6.mono s7).at_, ?_⟩⟩
        refine blK L hL1 (by omega) s7.g fun a H8 ha s8 => ?_
        refine blK m hm1 (by omega) s8.g fun b H9 hb s9 => ⟨by decide, fun e ne => ?_⟩
        have s69 := (s7.trans s8).trans s9
        have se := (Stp.refl s9.g).new (o := .tup [V.int (a : Nat), V.int (b : Nat), V.int (1 + (q : Int))]) ne
        have ae : AtD d (upd H9 e (.tup [V.int (a : Nat), V.int (b : Nat), V.int (1 + (q : Int))])) e (.tup [V.int (a : Nat), V.int (b : Nat), V.int (1 + (q : Int))]) := .new s9.g ne
        generalize upd H9 e (.tup [V.int (a : Nat), V.int (b : Nat), V.int (1 + (q : Int))]) = H10 at *
        have s6e := s69.trans se
        have hsa10 := hsa6.mono s6e
        have hal := hE6.1
        refine ⟨_, hsa10.at_, line_lt (by rw [List.length_map]; omega), hr7, as ++ [e], ts ++ [(a, b, 1 + q)], by rw [List.length_append, hl]; rfl, fun x hx => ?_, (s6.trans s6e).mut nsa hsa6.ne, (hna6.mono s6e).upd (ne_of (hna6.mono s6e).at_ hsa10.at_ (by intro z; cases z)), ?_, ?_⟩
        · rcases List.mem_append.mp hx with hx | hx
          · exact hts x hx
          · obtain rfl := List.mem_singleton.mp hx
            exact ⟨ha, hb, by show 1 ≤ 1 + q; omega, by show 1 + q ≤ 30; omega⟩
        · rw [show (as ++ [e]).map V.ref = as.map V.ref ++ [.ref e] by simp]
          exact hsa10.set
        · refine (triU (triE hE6 s6e) hsa10.at_).snoc ?_
          unfold TriAt vTri
          rw [hide_upd (ne_of ae.at_ hsa10.at_ (by intro z; cases z)), hide_ne ae.ne, ae.at_]
          show some (HO.tup [_, _, V.int (1 + (q : Int))]) = some (.tup [_, _, V.int ((1 + q : Nat) : Int)])
          rw [show (1 + (q : Int)) = ((1 + q : Nat) : Int) by omega]
      · rintro r σ H6 ⟨hr7, as, ts, v6, v7, hl, hts, s6, hna6, hsa6, hE6, rfl⟩
        exact hJ _ _ ⟨as, ts, v6, v7, by omega, hts, s6, hna6, hsa6, hE6, rfl⟩
    rintro _ H5 ⟨as, ts, v6, v7, htl, hts, s5, hna5, hsa5, hE5, rfl⟩
    refine seq_cut (fun σ H' => ∃ qa, H qa = none ∧ Stp d H H' ∧ AtD d H' na (.tup (strR ns)) ∧ AtD d H' sa (.lst (as.map V.ref)) ∧ Each (TriAt (hide H' d)) as ts ∧ AtD d H' qa (.lst []) ∧ σ = sgW d n m na L (some (.ref sa)) v6 v7 (some (.ref qa)) none none none) (fun J hJ => ?_) ?_
    · unfold sgW
      walk_at "rd"
      exact ⟨Nat.zero_le _, fun qa nqa => hJ _ _ ⟨qa, s5.free nqa, s5.new nqa, hna5.mono ((Stp.refl s5.g).new nqa), hsa5.mono ((Stp.refl s5.g).new nqa), triE hE5 ((Stp.refl s5.g).new nqa), .new s5.g nqa, rfl⟩⟩
    rintro _ H6 ⟨qa, nqa, s6, hna6, hsa6, hE6, hqa6, rfl⟩
    refine seq_cut (fun σ H' => ∃ (qb : Addr) (ps : List Nat) (vs : Option V), ps.length ≤ L ∧ ps.Pairwise (· < ·) ∧ (∀ t ∈ ps, t < L) ∧ Stp d H H' ∧ AtD d H' na (.tup (strR ns)) ∧ AtD d H' sa (.lst (as.map V.ref)) ∧ Each (TriAt (hide H' d)) as ts ∧ AtD d H' qb (.lst (ps.map fun v => V.int (v : Nat))) ∧ σ = sgW d n m na L (some (.ref sa)) v6 v7 (some (.ref qb)) vs none none) (fun J hJ => ?_) ?_
    · unfold sgW
      walk_at "rd"
      refine blK 2 (by decide) (by decide) s6.g fun r H7 hr s7 => ⟨scal_ii.mpr True.intro, ?_⟩
      by_cases hr0 : V.int ((r : Nat) : Int) = V.int 0
      · rw [if_pos hr0]
        refine blK 3 (by decide) (by decide) s7.g fun sh H7b hsh s7b => ⟨_, rfl, ?_⟩
        have s7 := s7.trans s7b
        clear s7b
        have s67 := s6.trans s7
        refine ⟨_, rfl, ((L : Nat) : Int), rfl, by omega, by omega, fun D nD => ?_⟩
        refine lc_it (walk_range (lo := 0) (n := L)) (fun i H' => ∃ ps : List Nat, ps.length ≤ i ∧ ps.Pairwise (· < ·) ∧ (∀ t ∈ ps, t < i) ∧ Stp d H H' ∧ AtD d H' na (.tup (strR ns)) ∧ AtD d H' sa (.lst (as.map V.ref)) ∧ Each (TriAt (hide H' d)) as ts ∧ AtD d H' D (.lst (ps.map fun v => V.int (v : Nat))))
          ⟨[], Nat.zero_le _, .nil, (fun t h => by cases h), s67.new nD, hna6.mono (s7.new nD), hsa6.mono (s7.new nD), triE hE6 (s7.new nD), .new s7.g nD⟩ (fun _ _ _ _ => True.intro) ?_ ?_
        · rintro i x H8 H9 hi ⟨ps, hp0, hp1, hp2, s8, hna8, hsa8, hE8, hD8⟩ ⟨rfl, rfl⟩
          show gName 6 _ (sgW d n m na L (some (.ref sa)) none v7 (some (.ref qa)) (some (.int (1 + (sh : Int)))) none none) _ _
          unfold sgW
          walk_at "rd"
          refine ⟨rfl, blK 4 (by decide) (by decide) s8.g fun q H10 hq s10 => ⟨_, rfl, ?_⟩⟩
          have nsD : sa ≠ D := fun z => by rw [← z, (hsa6.mono s7).at_] at nD; cases nD
          have hD10 := hD8.mono s10
          have hna10 := hna8.mono s10
          by_cases hq0 : ((q : Nat) : Int) < 1 + (sh : Int)
          · rw [if_pos hq0]
            refine ⟨_, hD10.at_, line_lt (by rw [List.length_map]; omega), ps ++ [i], by rw [List.length_append]; exact Nat.succ_le_succ hp0, ?_, ?_, (s8.trans s10).mut (s67.free nD) hD8.ne, hna10.upd (ne_of hna10.at_ hD10.at_ (by intro z; cases z)), (hsa8.mono s10).upd nsD, triU (triE hE8 s10) hD10.at_, ?_⟩
            · rw [List.pairwise_append]
              exact ⟨hp1, List.pairwise_singleton _ _, fun x hx y hy => by obtain rfl := List.mem_singleton.mp hy; exact hp2 x hx⟩
            · intro t ht
              rcases List.mem_append.mp ht with ht | ht
              · exact Nat.lt_succ_of_lt (hp2 t ht)
              · obtain rfl := List.mem_singleton.mp ht
                exact Nat.lt_succ_self _
            · rw [Int.zero_add, show (ps ++ [i]).map (fun v => V.int (v : Nat)) = ps.map (fun v => V.int (v : Nat)) ++ [V.int (i : Nat)] by simp]
              exact hD10.set
          · rw [if_neg hq0]
            exact ⟨ps, Nat.le_succ_of_le hp0, hp1, fun t ht => Nat.lt_succ_of_lt (hp2 t ht), s8.trans s10, hna10, hsa8.mono s10, triE hE8 s10, hD10⟩
        · rintro H8 ⟨ps, hp0, hp1, hp2, s8, hna8, hsa8, hE8, hD8⟩
          exact hJ _ _ ⟨D, ps, _, hp0, hp1, hp2, s8, hna8, hsa8, hE8, hD8, rfl⟩
      · rw [if_neg hr0]
        exact hJ _ _ ⟨qa, [], _, Nat.zero_le _, .nil, (fun t h => by cases h), s6.trans s7, hna6.mono s7, hsa6.mono s7, triE hE6 s7, hqa6.mono s7, rfl⟩
    rintro _ H7 ⟨qb, ps, vs, hp0, hp1, hp2, s7, hna7, hsa7, hE7, hqb7, rfl⟩
    refine seq_cut (fun σ H' => ∃ (ra : Addr) (rs : List Nat), rs.Perm (List.range m) ∧ Stp d H H' ∧ AtD d H' na (.tup (strR ns)) ∧ AtD d H' sa (.lst (as.map V.ref)) ∧ Each (TriAt (hide H' d)) as ts ∧ AtD d H' qb (.lst (ps.map fun v => V.int (v : Nat))) ∧ AtD d H' ra (.lst (rs.map fun v => V.int (v : Nat))) ∧ σ = sgW d n m na L (some (.ref sa)) v6 v7 (some (.ref qb)) vs (some (.ref ra)) none) (fun J hJ => ?_) ?_
    · unfold sgW
      walk_at "rd"
      refine blK 2 (by decide) (by decide) s7.g fun r H8 hr s8 => ⟨scal_ii.mpr True.intro, ?_⟩
      have s78 := s7.trans s8
      by_cases hr0 : V.int ((r : Nat) : Int) = V.int 0
      · rw [if_pos hr0]
        refine ⟨_, rfl, _, rfl, RgOk.of_le (by decide) (by omega) (by decide) (by omega), fun z nz => ?_⟩
        rw [rgV0]
        exact hJ _ _ ⟨z, List.range m, .refl _, s78.new nz, hna7.mono (s8.new nz), hsa7.mono (s8.new nz), triE hE7 (s8.new nz), hqb7.mono (s8.new nz), .new s8.g nz, rfl⟩
      · rw [if_neg hr0]
        refine ⟨_, rfl, _, rfl, RgOk.of_le (by decide) (by omega) (by decide) (by omega), fun z nz => ?_⟩
        rw [rgV0]
        refine ⟨d, z, _, rfl, (s78.new nz).g, .inl (SqL.of upd_same), flatv_ints _, by rw [List.length_map, List.length_range]; omega, fun ys q H9 hperm nq k9 hq gq => ?_⟩
        obtain ⟨rs, rfl, hrs⟩ := perm_map_inv hperm _ rfl
        have s9 : Stp d H7 H9 := (s8.new nz).trans ⟨k9, gq⟩
        exact hJ _ _ ⟨q, rs, hrs, s7.trans s9, hna7.mono s9, hsa7.mono s9, triE hE7 s9, hqb7.mono s9, ⟨goodd_ne (s8.new nz).g nq, hq⟩, rfl⟩
    rintro _ H8 ⟨ra, rs, hrs, s8, hna8, hsa8, hE8, hqb8, hra8, rfl⟩
    refine seq_cut (fun σ H' => ∃ (la : Addr) (ls : List Addr) (os : List (Nat × Nat × Nat)), Stp d H H' ∧ AtD d H' na (.tup (strR ns)) ∧ AtD d H' sa (.lst (as.map V.ref)) ∧ Each (TriAt (hide H' d)) as ts ∧ AtD d H' qb (.lst (ps.map fun v => V.int (v : Nat))) ∧ AtD d H' ra (.lst (rs.map fun v => V.int (v : Nat))) ∧
      AtD d H' la (.lst (ls.map V.ref)) ∧ Each (TriAt (hide H' d)) ls os ∧ os.Perm ((List.range ts.length).map (plc ts)) ∧ (os.Pairwise fun x y => x.1 < y.1 ∨ x.1 = y.1 ∧ x.2.1 ≤ y.2.1) ∧ σ = sgW d n m na L (some (.ref sa)) v6 v7 (some (.ref qb)) vs (some (.ref ra)) (some (.ref la))) (fun J hJ => ?_) ?_
    · unfold sgW
      walk_at "rd"
      have hal := hE8.1
      refine ⟨_, rfl, sa, rfl, _, .inl (SqL.of hsa8.at_), _, rfl, by omega, by rw [List.length_map]; omega, fun D nD => ?_⟩
      refine lc_it (walk_range (lo := 0) (n := (as.map V.ref).length)) (fun i H' => ∃ ls : List Addr, Stp d H H' ∧ AtD d H' na (.tup (strR ns)) ∧ AtD d H' sa (.lst (as.map V.ref)) ∧ Each (TriAt (hide H' d)) as ts ∧ AtD d H' qb (.lst (ps.map fun v => V.int (v : Nat))) ∧ AtD d H' ra (.lst (rs.map fun v => V.int (v : Nat))) ∧
          AtD d H' D (.lst (ls.map V.ref)) ∧ Each (TriAt (hide H' d)) ls ((List.range i).map (plc ts)))
        ⟨[], s8.new nD, hna8.mono ((Stp.refl s8.g).new nD), hsa8.mono ((Stp.refl s8.g).new nD), triE hE8 ((Stp.refl s8.g).new nD), hqb8.mono ((Stp.refl s8.g).new nD), hra8.mono ((Stp.refl s8.g).new nD), .new s8.g nD, Each.nil⟩ (fun _ _ _ _ => True.intro) ?_ ?_
      · rintro i x H10 H9 hi ⟨ls, s9, hna9, hsa9, hE9, hqb9, hra9, hD9, hL9⟩ ⟨rfl, rfl⟩
        show gName 6 _ (sgW d n m na L (some (.ref sa)) none v7 (some (.ref qb)) vs (some (.ref ra)) none) _ _
        unfold sgW
        walk_at "rd"
        rw [List.length_map] at hi
        have hit : i < ts.length := by omega
        obtain ⟨a, ha, hTa⟩ := hE9.get hit
        obtain ⟨nea, hTa⟩ := hide_some hTa
        have hax : atI (as.map V.ref) (0 + (i : Int)) = some (.ref a) := by
          rw [Int.zero_add]
          exact atI_nat (by rw [List.getElem?_map, ha]; rfl)
        refine ⟨rfl, _, SqL.of hsa9.at_, _, hax, a, rfl, _, SqT.of hTa, _, rfl, _, SqL.of hsa9.at_, _, hax, a, rfl, _, SqT.of hTa, _, rfl, by decide, fun e ne => ?_⟩
        have se := (Stp.refl s9.g).new (o := .tup [V.int (ts[i].1 : Nat), V.int (ts[i].2.1 : Nat), V.int (0 + (i : Int))]) ne
        have ae : AtD d (upd H9 e (.tup [V.int (ts[i].1 : Nat), V.int (ts[i].2.1 : Nat), V.int (0 + (i : Int))])) e (.tup [V.int (ts[i].1 : Nat), V.int (ts[i].2.1 : Nat), V.int (0 + (i : Int))]) := .new s9.g ne
        generalize upd H9 e (.tup [V.int (ts[i].1 : Nat), V.int (ts[i].2.1 : Nat), V.int (0 + (i : Int))]) = H11 at *
        have hD11 := hD9.mono se
        have hna11 := hna9.mono se
        have hlen := hL9.1
        rw [List.length_map, List.length_range] at hlen
        refine ⟨_, hD11.at_, line_lt (by rw [List.length_map]; omega), (s9.trans se).mut (s8.free nD) hD9.ne, hna11.upd (ne_of hna11.at_ hD11.at_ (by intro z; cases z)), (hsa9.mono se).upd (fun z => by rw [← z, hsa8.at_] at nD; cases nD), triU (triE hE9 se) hD11.at_, (hqb9.mono se).upd (fun z => by rw [← z, hqb8.at_] at nD; cases nD), (hra9.mono se).upd (fun z => by rw [← z, hra8.at_] at nD; cases nD), ls ++ [e], ?_, ?_⟩
        · rw [show (ls ++ [e]).map V.ref = ls.map V.ref ++ [.ref e] by simp]
          exact hD11.set
        · rw [List.range_succ, List.map_append]
          refine (triU (triE hL9 se) hD11.at_).snoc ?_
          unfold TriAt vTri
          rw [hide_upd (ne_of ae.at_ hD11.at_ (by intro z; cases z)), hide_ne ae.ne, ae.at_, Int.zero_add]
          unfold plc
          rw [List.getD_eq_getElem?_getD, List.getElem?_eq_getElem hit]
          rfl
      · rintro H9 ⟨ls, s9, hna9, hsa9, hE9, hqb9, hra9, hD9, hL9⟩
        rw [List.length_map, hal] at hL9
        have hlen := hL9.1
        rw [List.length_map, List.length_range] at hlen
        have tri : ∀ {b : Addr} {x : Tri}, TriAt (hide H9 d) b x → TupI K H9 (.ref b) [(x.1 : Nat), (x.2.1 : Nat), (x.2.2 : Nat)] := fun {b x} h => ⟨b, rfl, SqT.of (hide_some h).2⟩
        refine ⟨D, ls.map V.ref, rfl, SqL.of hD9.at_, by rw [List.length_map]; omega, fun x hx => ?_, fun ys p hperm hpw np => ?_⟩
        · obtain ⟨b, hb, rfl⟩ := List.mem_map.mp hx
          obtain ⟨i, hi, rfl⟩ := List.getElem_of_mem hb
          have hi2 : i < ts.length := by omega
          have ht := hL9.2 i _ (plc ts i) (List.getElem?_eq_getElem hi) (by rw [List.getElem?_map, List.getElem?_range hi2]; rfl)
          obtain ⟨b1, b2, b3⟩ := plc_le hts (by omega : m ≤ 100) (by omega : L ≤ 100) (by omega) hi2
          refine ⟨_, tri ht, rfl, fun z hz => ?_⟩
          simp only [List.mem_cons, List.not_mem_nil, or_false] at hz
          rcases hz with rfl | rfl | rfl <;> omega
        · obtain ⟨ms, rfl, hms⟩ := perm_map_inv hperm ls rfl
          obtain ⟨os, hos, hoe⟩ := each_perm hms _ hL9
          have sp := (Stp.refl s9.g).new (o := .lst (ms.map V.ref)) np
          refine hJ _ _ ⟨p, ms, os, s9.trans sp, hna9.mono sp, hsa9.mono sp, triE hE9 sp, hqb9.mono sp, hra9.mono sp, .new s9.g np, triE hoe sp, hos, ?_, rfl⟩
          rw [List.pairwise_iff_getElem] at hpw ⊢
          intro i j hi hj hij
          have hml := hoe.1
          have h1 := hpw i j (by rw [List.length_map]; omega) (by rw [List.length_map]; omega) hij _ _ (by rw [List.getElem_map]; exact tri (hoe.2 i _ os[i] (List.getElem?_eq_getElem (by omega)) (List.getElem?_eq_getElem hi))) (by rw [List.getElem_map]; exact tri (hoe.2 j _ os[j] (List.getElem?_eq_getElem (by omega)) (List.getElem?_eq_getElem hj)))
          have bd : ∀ x ∈ os, x.1 ≤ 100 ∧ x.2.1 ≤ 100 ∧ x.2.2 ≤ 100 := fun x hx => by
            obtain ⟨k, hk, rfl⟩ := List.mem_map.mp (hos.mem_iff.mp hx)
            have := plc_le hts (by omega : m ≤ 100) (by omega : L ≤ 100) (by omega) (List.mem_range.mp hk)
            exact this
          exact code_le (bd _ (List.getElem_mem hi)) (bd _ (List.getElem_mem hj)) h1
    rintro _ H9 ⟨la, ls, os, s9, hna9, hsa9, hE9, hqb9, hra9, hla9, hL9, hos, hso, rfl⟩
    refine seq_cut (fun σ H' => ∃ M : Nat, 1 ≤ M ∧ M ≤ 9 ∧ Stp d H9 H' ∧ σ = sgW d M m na L (some (.ref sa)) v6 v7 (some (.ref qb)) vs (some (.ref ra)) (some (.ref la))) (fun J hJ => ?_) ?_
    · unfold sgW
      walk_at "rd"
      exact ⟨by decide, fun p np => pickK [2, 9] 9 2 rfl (by decide) (by decide) (by decide) (by decide) s9.g np fun r H' hr s => ⟨_, rfl, hJ _ _ ⟨1 + r, by omega, by omega, s, by rw [show (1 + (r : Int)) = ((1 + r : Nat) : Int) by omega]; rfl⟩⟩⟩
    rintro _ H10 ⟨M, hM1, hM2, s10, rfl⟩
    unfold sgW
    walk_at "rd"
    have og : ∀ o ∈ os, (ts.getD o.2.2 (0, 0, 0)).1 = o.1 ∧ (ts.getD o.2.2 (0, 0, 0)).2.1 = o.2.1 ∧ o.2.2 < ts.length := fun o ho => by
      obtain ⟨k, hk, rfl⟩ := List.mem_map.mp (hos.mem_iff.mp ho)
      exact ⟨rfl, rfl, List.mem_range.mp hk⟩
    have hol : os.length = ts.length := by rw [hos.length_eq, List.length_map, List.length_range]
    have hll := hL9.1
    have hE10 := triE hE9 s10
    refine ⟨_, rfl, la, rfl, ⟨_, SqL.of (hla9.mono s10).at_⟩, fun D nD => ?_⟩
    refine lc_map (ys := os.map fun o => V.ref (as.getD o.2.2 sa)) nD (hla9.mono s10).at_ (by rw [List.length_map, List.length_map, hll]) (by rw [List.length_map]; omega) (fun i x y H' k' hx hy s6 hk => ?_) ?_
    · rw [List.getElem?_map] at hx hy
      obtain ⟨b, hb, rfl⟩ := Option.map_eq_some_iff.mp hx
      obtain ⟨o, ho, rfl⟩ := Option.map_eq_some_iff.mp hy
      obtain ⟨_, hb2⟩ := hide_some (keep_hide s10 _ _ (hL9.2 i b o hb ho))
      have hb3 := s6 _ _ hb2
      obtain ⟨_, _, g3⟩ := og o (List.mem_of_getElem? ho)
      have hs3 := s6 _ _ (hsa9.mono s10).at_
      have hax : atI (as.map V.ref) ((o.2.2 : Nat) : Int) = some (.ref (as.getD o.2.2 sa)) := atI_nat (by rw [List.getElem?_map, List.getD_eq_getElem?_getD, List.getElem?_eq_getElem (by rw [hE9.1]; exact g3)]; rfl)
      simp only [vTri] at hb3
      walk_at "rd"
      exact ⟨_, SqT.of hb3, _, rfl, _, _, rfl, SqL.of hs3, _, hax, hk⟩
    · have sD := (Stp.refl s10.g).new (o := .lst (os.map fun o => V.ref (as.getD o.2.2 sa))) nD
      have aD : AtD d (upd H10 D (.lst (os.map fun o => V.ref (as.getD o.2.2 sa)))) D (.lst (os.map fun o => V.ref (as.getD o.2.2 sa))) := .new s10.g nD
      generalize upd H10 D (.lst (os.map fun o => V.ref (as.getD o.2.2 sa))) = H11 at *
      refine ⟨by decide, fun q nq => ?_⟩
      have sq := (Stp.refl sD.g).new (o := .tup [V.int (L : Nat), V.int (M : Nat), V.ref na, V.ref ra, V.ref D, V.ref qb]) nq
      have aq : AtD d (upd H11 q (.tup [V.int (L : Nat), V.int (M : Nat), V.ref na, V.ref ra, V.ref D, V.ref qb])) q (.tup [V.int (L : Nat), V.int (M : Nat), V.ref na, V.ref ra, V.ref D, V.ref qb]) := .new sD.g nq
      generalize upd H11 q (.tup [V.int (L : Nat), V.int (M : Nat), V.ref na, V.ref ra, V.ref D, V.ref qb]) = H12 at *
      have s12 := (s10.trans sD).trans sq
      refine k q ⟨L, M, ns, rs, os.map fun o => ts.getD o.2.2 (0, 0, 0), ps⟩ H12 (s9.trans s12) ((s9.trans (s10.trans sD)).free nq) ⟨na, ra, D, qb, os.map fun o => as.getD o.2.2 sa, aq.hide, (hna9.mono s12).hide, (hra9.mono s12).hide, ?_, ?_, (hqb9.mono s12).hide⟩ ?_ ?_
      · rw [List.map_map]
        exact (aD.mono sq).hide
      · refine ⟨by rw [List.length_map, List.length_map], fun i a t ha ht => ?_⟩
        rw [List.getElem?_map] at ha ht
        obtain ⟨o, ho, rfl⟩ := Option.map_eq_some_iff.mp ha
        rw [ho] at ht
        obtain rfl := Option.some.inj ht
        obtain ⟨_, _, g3⟩ := og o (List.mem_of_getElem? ho)
        refine (triE hE9 s12).2 o.2.2 _ _ ?_ ?_
        · rw [List.getD_eq_getElem?_getD, List.getElem?_eq_getElem (by rw [hE9.1]; exact g3)]
          rfl
        · show _ = some (ts.getD o.2.2 (0, 0, 0))
          rw [List.getD_eq_getElem?_getD, List.getElem?_eq_getElem g3]
          rfl
      · refine ⟨hL1, hL2, hM1, hM2, ?_, ?_, hnd, hnp, ?_, ?_, fun x hx => ?_, ?_, hp0, hp1, hp2⟩
        · show 1 ≤ ns.length
          omega
        · show ns.length ≤ 8
          omega
        · show rs.Perm (List.range ns.length)
          rw [hns]
          exact hrs
        · show (os.map _).length ≤ 12
          rw [List.length_map]
          omega
        · obtain ⟨o, ho, rfl⟩ := List.mem_map.mp hx
          obtain ⟨_, _, g3⟩ := og o ho
          show _ ∧ _ < ns.length ∧ _
          rw [hns]
          rw [List.getD_eq_getElem?_getD, List.getElem?_eq_getElem g3]
          exact hts _ (List.getElem_mem g3)
        · show (os.map _).Pairwise _
          rw [List.pairwise_map]
          refine hso.imp_of_mem fun {x y} hx hy h => ?_
          obtain ⟨x1, x2, _⟩ := og x hx
          obtain ⟨y1, y2, _⟩ := og y hy
          rw [x1, x2, y1, y2]
          exact h
      · show ns.length ≤ n
        omega
end

end Wv
end WvRW_
section WvRL_
set_option Elab.async false
set_option linter.all false
set_option maxRecDepth 100000
set_option maxHeartbeats 4000000
namespace Wv
open PySem L2
open SX (S S_len S_inj)
local macro_rules | `(tactic| walk_at "rd") => `(tactic| (try simp only [tVar, tC, tB, tAnd, tOr, tNot, tAndV, tOrV, tNotV, tIf, tNext, tSeq, tBreak, tCont, tDrop, tRet, tRetN, tIfS, gName, gNil, gCons, gTup, gSub, tAsg, tPar, tAug, tOp, tUn, rI, rI0, rU, rEq, rNe, tTest, tFld, tNil, tCons, tTup, tLst, tCB, tNoPart, tPart, tSl, rIxL, rIxT, rIxS, rSlL, rSlS, tBM0, tBM, rAppend, rExtend, rCat, rRep, rSetL, tM0, tM1, tCall, tMeth, tMake, sFld, sFldAug, rAdd, rSub, ipI, tBM0,
  scal_ss, scal_ii, scal_bb, scal_ns, scal_sn, scal_nn, tyV_str, L2.start, List.map_cons, List.map_nil, List.length_cons, List.length_nil, List.replicate, List.cons_append, List.nil_append, List.append_nil, List.getElem?_cons_zero, List.getElem?_cons_succ, List.set_cons_zero, List.set_cons_succ, Nat.reduceAdd, Nat.reduceSub, Nat.zero_add, Nat.sub_self, Nat.add_one_sub_one,
  Option.some.injEq, exists_eq_left, exists_eq_left', exists_eq', exists_eq, V.int.injEq, V.str.injEq, V.ref.injEq, V.bl.injEq, reduceCtorEq, List.cons.injEq, and_true, true_and, exists_and_left, exists_and_right, and_assoc, decide_true, decide_false, if_true, if_false, ite_true, ite_false, Bool.false_eq_true, Bool.true_eq_false, eq_self_iff_true, cx_K, nox_K, tMkSyn, tMkChk, tYes, bne, ne_eq, not_false_eq_true, not_true_eq_false, Bool.not_true, Bool.not_false, decide_eq_true_eq, Bool.not_eq_true', decide_eq_false_iff_not]))
/-! ### the statements of a plan in another order -/
open LamX
def lineA (r : ARow) : List Nat := TL.joinL [32] r.w ++ [59]
def sgO (d pl ll : Addr) (v3 v4 v5 v6 v7 v8 v9 v10 v11 v12 : Option V) : L2.St := [some (.ref d), some (.ref pl), some (.ref ll), v3, v4, v5, v6, v7, v8, v9, v10, v11, v12]
theorem strR_app' (a b : List (List Nat)) : strR a ++ strR b = strR (a ++ b) := (List.map_append ..).symm
theorem cut_5 {z : List Nat} : cutS (S z) none (some 5) = S (z.take 5) := by
  unfold cutS
  rw [HT.sIx_none, show HT.sIx (S z).length (S z).length (some 5) = min 5 (S z).length from HT.sIx_nat (S z).length _ 5, S_len, List.drop_zero, Nat.sub_zero]
  show S (z.take (min 5 z.length)) = _
  by_cases h : 5 ≤ z.length
  · rw [Nat.min_eq_left h]
  · rw [Nat.min_eq_right (by omega), List.take_length, List.take_of_length_le (by omega)]
theorem line_5 (r : ARow) (h : r.isHead = false) : (lineA r).take 5 = (if r.isStart = true then startK else if r.isRank = true then [114, 97, 110, 107] ++ (lineA r).drop 4 |>.take 5 else pauseK) := by
  cases r with
  | round n => cases h
  | opn n => cases h
  | valves n => cases h
  | start a b c => rfl
  | rank q =>
    show (lineA (.rank q)).take 5 = ([114, 97, 110, 107] ++ (lineA (.rank q)).drop 4).take 5
    cases q with
    | nil => rfl
    | cons x q => rfl
  | pause a b => rfl
theorem rank_5 (q : List (List Nat)) : (lineA (.rank q)).take 5 ≠ startK ∧ (lineA (.rank q)).take 5 ≠ pauseK := by
  have e : ∃ t, lineA (.rank q) = 114 :: t := by
    cases q with
    | nil => exact ⟨_, rfl⟩
    | cons x q => exact ⟨_, rfl⟩
  obtain ⟨t, e⟩ := e
  rw [e]
  exact ⟨fun h => absurd (List.cons.inj h).1 (by decide), fun h => absurd (List.cons.inj h).1 (by decide)⟩
theorem is_start5 (r : ARow) (h : r.isHead = false) : ((lineA r).take 5 = startK) = (r.isStart = true) := by
  cases r with
  | round n => cases h
  | opn n => cases h
  | valves n => cases h
  | start a b c => exact propext ⟨fun _ => rfl, fun _ => rfl⟩
  | rank q => exact propext ⟨fun h => absurd h (rank_5 q).1, fun h => by cases h⟩
  | pause a b => exact propext ⟨fun h => absurd h (by show pauseK ≠ startK; decide), fun h => by cases h⟩
def ARow.isPause : ARow → Bool
  | .pause _ _ => true
  | _ => false
theorem is_pause5 (r : ARow) (h : r.isHead = false) : ((lineA r).take 5 = pauseK) = (r.isPause = true) := by
  cases r with
  | round n => cases h
  | opn n => cases h
  | valves n => cases h
  | start a b c => exact propext ⟨fun h => absurd h (by show startK ≠ pauseK; decide), fun h => by cases h⟩
  | rank q => exact propext ⟨fun h => absurd h (rank_5 q).2, fun h => by cases h⟩
  | pause a b => exact propext ⟨fun _ => rfl, fun _ => rfl⟩
theorem arows_head (p : WPlan) : ∀ r ∈ arowsP p, r.isHead = false := fun r hr => by
  unfold arowsP at hr
  rcases List.mem_append.mp hr with hr | hr
  · rcases List.mem_append.mp hr with hr | hr
    · split at hr
      · cases hr
      · obtain rfl := List.mem_singleton.mp hr
        rfl
    · obtain ⟨x, _, rfl⟩ := List.mem_map.mp hr
      rfl
  · obtain ⟨x, _, rfl⟩ := List.mem_map.mp hr
    rfl
theorem filter_map_const {α : Type} {f : α → ARow} {g : ARow → Bool} (b : Bool) (h : ∀ x, g (f x) = b) (l : List α) : (l.map f).filter g = if b = true then l.map f else [] := by
  cases b with
  | true =>
    rw [if_pos rfl]
    exact List.filter_eq_self.mpr fun x hx => by
      obtain ⟨y, _, rfl⟩ := List.mem_map.mp hx
      exact h y
  | false =>
    rw [if_neg Bool.false_ne_true]
    exact List.filter_eq_nil_iff.mpr fun x hx => by
      obtain ⟨y, _, rfl⟩ := List.mem_map.mp hx
      rw [h y]
      exact Bool.false_ne_true
theorem arows_starts (p : WPlan) : (arowsP p).filter ARow.isStart = p.starts.map (startR p) := by
  unfold arowsP
  rw [List.filter_append, List.filter_append, filter_map_const true (fun _ => rfl), if_pos rfl, filter_map_const (f := fun r : Nat × Nat => ARow.pause r.1 r.2) false (fun _ => rfl), if_neg Bool.false_ne_true, List.append_nil]
  split <;> rfl
theorem arows_len {p : WPlan} (h : PlanOk p) : (arowsP p).length ≤ 73 := by
  have h1 := h.sl
  have h2 := h.qn
  have h3 := h.l2
  have h4 := (runsA_le p.paused fun t ht => by have := h.qk t ht; omega).1
  unfold arowsP
  rw [List.length_append, List.length_append, List.length_map, List.length_map]
  split <;> simp <;> omega
theorem lineA_len {r : ARow} (h : r.w.length ≤ 9) (h2 : ∀ x ∈ r.w, x.length ≤ 100) : (lineA r).length ≤ 1000 := by
  unfold lineA
  have h1 := joinL_len [32] r.w
  have h3 := sum_le h2
  rw [List.length_append]
  simp at h1 ⊢
  omega
/-- a comprehension with a test: the items that f keeps; the tests may make new things -/
theorem lc_filt {J : It} {D : Addr} {xs : List V} {G : Hp → Prop} {n : Nat} {tt : TT} {σ : L2.St} {H : Hp} {Qd : Hp → Prop} (f : V → Bool) (w : Walk J xs.length G (YAt xs)) (hD : H D = none) (hG : ∀ H', Same H H' → G H') (hz : xs.length ≤ 100000)
    (ht : ∀ (i : Nat) (x : V) (H' : Hp), xs[i]? = some x → Same H H' → ∀ k : Bool → Hp → Prop, (∀ H'', Same H' H'' → k (f x) H'') → tt (σ.set n (some x)) H' k)
    (hw : ∀ x : V, wipe (σ.set n (some x)) [n] = wipe σ [n] ∧ (wipe σ [n]).set n (some x) = σ.set n (some x) ∧ (σ.set n (some x))[n]? = some (some x))
    (hq : ∀ H', Same H H' → H' D = some (.lst (xs.filter f)) → Qd H') :
    ∃ W : Nat → Nat → Hp → Prop, (∃ m, W 0 m (upd H D (.lst []))) ∧ ∀ i m H, W i m H →
      (J.stop i H ∧ Qd H) ∨ (J.go i H ∧ ∃ Nx : Hp → Prop, (∀ H', Nx H' → ∃ m', m' < m ∧ W (i + 1) m' H') ∧ ∀ x H', J.yld i H x H' → gName n x (wipe σ [n]) H' fun σ2 H2 => wipe σ2 [n] = wipe σ [n] ∧ tt σ2 H2 fun b H3 =>
        if b = true then tVar n σ2 H3 fun y H4 => ∃ acc, H4 D = some (.lst acc) ∧ acc.length < sizeLine ∧ Nx (upd H4 D (.lst (acc ++ [y]))) else Nx H3) := by
  refine lc_it w (fun i H' => Same H H' ∧ H' D = some (.lst ((xs.take i).filter f))) ⟨same_new hD, upd_same⟩ (fun i H' _ e => hG H' e.1) ?_ ?_
  · rintro i x H1 H2 hi ⟨s, hd⟩ ⟨rfl, hx⟩
    obtain ⟨w1, w2, w3⟩ := hw x
    show wipe ((wipe σ [n]).set n (some x)) [n] = wipe σ [n] ∧ _
    rw [w2]
    refine ⟨w1, ht i x _ hx s _ fun H3 s3 => ?_⟩
    have hl : ((xs.take i).filter f).length ≤ 100000 := Nat.le_trans (List.length_filter_le _ _) (by rw [List.length_take]; omega)
    have hst : (xs.take (i + 1)).filter f = (xs.take i).filter f ++ (if f x = true then [x] else []) := by
      rw [List.take_add_one, hx, List.filter_append]
      congr 1
      show [x].filter f = _
      rw [List.filter_cons, List.filter_nil]
    by_cases hf : f x = true
    · rw [if_pos hf]
      refine ⟨x, w3, _, s3 _ _ hd, line_lt hl, same_mut (s.trans s3) hD, ?_⟩
      rw [upd_same, hst, if_pos hf]
    · rw [if_neg hf]
      exact ⟨s.trans s3, by rw [s3 _ _ hd, hst, if_neg hf, List.append_nil]⟩
  · rintro H1 ⟨s, hd⟩
    rw [List.take_length] at hd
    exact hq H1 s hd
theorem filter_lines {f : V → Bool} {g : ARow → Bool} : ∀ (rs : List ARow), (∀ r ∈ rs, f (.str (S (lineA r))) = g r) → (strR (rs.map lineA)).filter f = strR ((rs.filter g).map lineA)
  | [], _ => rfl
  | r :: rs, h => by
    have ih := filter_lines rs fun q hq => h q (List.mem_cons_of_mem _ hq)
    show (V.str (S (lineA r)) :: strR (rs.map lineA)).filter f = _
    rw [List.filter_cons, List.filter_cons, h r (List.mem_cons_self ..), ih]
    split <;> rfl
/-! #### the sizes of a rank that says all -/
def sizeOk (p : WPlan) (s : Nat) : Prop := (p.ranks.map (nmP p)).drop s = p.names.filter fun n => decide (n ∉ (p.ranks.map (nmP p)).take s)
instance (p : WPlan) (s : Nat) : Decidable (sizeOk p s) := by unfold sizeOk; infer_instance
theorem size_all {p : WPlan} (h : PlanOk p) : sizeOk p p.ranks.length := by
  unfold sizeOk
  rw [List.drop_eq_nil_of_le (by rw [List.length_map]; exact Nat.le_refl _), List.take_of_length_le (by rw [List.length_map]; exact Nat.le_refl _)]
  refine (List.filter_eq_nil_iff.mpr fun n hn => ?_).symm
  rw [decide_eq_true_eq]
  intro hh
  obtain ⟨i, hi, rfl⟩ := List.getElem_of_mem hn
  refine hh (List.mem_map.mpr ⟨i, h.rk.mem_iff.mpr (List.mem_range.mpr hi), ?_⟩)
  rw [nmP, List.getD_eq_getElem?_getD, List.getElem?_eq_getElem hi]
  rfl
theorem idx_names {p : WPlan} (h : PlanOk p) (f : List Nat → Bool) : (p.names.filter f).map p.names.idxOf = (List.range p.names.length).filter fun v => f (nmP p v) := by
  have e : p.names = (List.range p.names.length).map (nmP p) := by
    refine List.ext_getElem (by simp) fun i h1 h2 => ?_
    rw [List.getElem_map, List.getElem_range, nmP, List.getD_eq_getElem?_getD, List.getElem?_eq_getElem h1]
    rfl
  have key : ∀ l : List Nat, (∀ v ∈ l, v < p.names.length) → ((l.map (nmP p)).filter f).map p.names.idxOf = l.filter fun v => f (nmP p v) := by
    intro l
    induction l with
    | nil => intro _; rfl
    | cons v l ih =>
      intro hl
      have ih := ih fun x hx => hl x (List.mem_cons_of_mem _ hx)
      rw [List.map_cons, List.filter_cons, List.filter_cons]
      by_cases hf : f (nmP p v) = true
      · rw [if_pos hf, if_pos hf, List.map_cons, ih, nmP_idx h.nd (hl v (List.mem_cons_self ..))]
      · rw [if_neg hf, if_neg hf, ih]
  have := key (List.range p.names.length) fun v hv => List.mem_range.mp hv
  rw [← e] at this
  exact this
theorem rank_size {p : WPlan} (h : PlanOk p) {s : Nat} (hs : sizeOk p s) : ((p.ranks.map (nmP p)).take s).map p.names.idxOf ++ (List.range p.names.length).filter (fun v => decide (v ∉ ((p.ranks.map (nmP p)).take s).map p.names.idxOf)) = p.ranks := by
  obtain ⟨k1, k2, k3⟩ := names_ok h
  have e1 : ((p.ranks.map (nmP p)).take s).map p.names.idxOf = p.ranks.take s := by
    rw [List.map_take, k3]
  have e2 := congrArg (List.map p.names.idxOf) hs
  rw [List.map_drop, k3, idx_names h] at e2
  rw [e1]
  have e3 : (List.range p.names.length).filter (fun v => decide (v ∉ p.ranks.take s)) = p.ranks.drop s := by
    rw [e2]
    refine List.filter_congr fun v hv => decide_eq_decide.mpr (not_congr ?_)
    rw [← e1]
    constructor
    · intro hm
      obtain ⟨x, hx, e⟩ := List.mem_map.mp hm
      have hxn : x ∈ p.names := k2 x (List.mem_of_mem_take hx)
      have : x = nmP p v := by
        rw [nmP, List.getD_eq_getElem?_getD, ← e, List.getElem?_eq_getElem (List.idxOf_lt_length_iff.mpr hxn)]
        exact (List.getElem_idxOf _).symm
      rw [← this]
      exact hx
    · intro hm
      exact List.mem_map.mpr ⟨_, hm, nmP_idx h.nd (List.mem_range.mp hv)⟩
  rw [e3, List.take_append_drop]
/-! #### rows in any order -/
theorem rank_fold (ns : List (List Nat)) : ∀ (rs : List ARow) (q : List Nat), rs.foldl (rank1 ns) q = (rs.filter ARow.isRank).foldl (rank1 ns) q
  | [], _ => rfl
  | r :: rs, q => by
    rw [List.foldl_cons, rank_fold ns rs, List.filter_cons]
    cases r <;> rfl
/-- what the law's shuffled statements are made of -/
theorem rows_of_perm {p : WPlan} (h : PlanOk p) {rs os : List ARow} (hp : rs.Perm (os ++ p.starts.map (startR p))) (hs : rs.filterMap (startA p.names) = p.starts) (ho : ∀ r ∈ os, r.isStart = false ∧ r.ok ∧ r.good p.len p.names)
    (hr : (os.filter ARow.isRank = [] ∧ p.ranks = List.range p.names.length) ∨ ∃ s, sizeOk p s ∧ os.filter ARow.isRank = [.rank ((p.ranks.map (nmP p)).take s)]) (hd : ∀ t, t < p.len → (PausedBy os t ↔ t ∈ p.paused)) : RowsOk p rs := by
  have l2 := h.l2
  have hst : ∀ x ∈ p.starts, (startR p x).ok ∧ (startR p x).good p.len p.names := fun x hx => by
    obtain ⟨a, b, c, d⟩ := h.st x hx
    exact ⟨⟨pool_name _ (h.np _ (nmP_in b)), by omega, by omega⟩, ⟨nmP_in b, a, c, d⟩⟩
  have f1 : (rs.filter ARow.isRank).Perm (os.filter ARow.isRank) := by
    have := hp.filter ARow.isRank
    rw [List.filter_append, filter_map_const false (fun _ => rfl), if_neg Bool.false_ne_true, List.append_nil] at this
    exact this
  refine ⟨fun r hr' => ?_, hs, ?_, ?_, ?_, fun t ht => ?_, fun q hq => ?_⟩
  · rcases List.mem_append.mp (hp.mem_iff.mp hr') with hm | hm
    · exact (ho r hm).2
    · obtain ⟨x, hx, rfl⟩ := List.mem_map.mp hm
      exact hst x hx
  · unfold nStarts
    rw [(hp.filter ARow.isStart).length_eq, List.filter_append, List.filter_eq_nil_iff.mpr (fun r hr' => by rw [(ho r hr').1]; exact Bool.false_ne_true), List.nil_append]
    refine Nat.le_trans (List.length_filter_le _ _) ?_
    rw [List.length_map]
    have := h.sl
    omega
  · unfold nRanks
    rw [f1.length_eq]
    rcases hr with ⟨e, _⟩ | ⟨s, _, e⟩ <;> rw [e] <;> simp
  · unfold rankA
    rw [rank_fold]
    rcases hr with ⟨e, hrk⟩ | ⟨s, hs', e⟩
    · rw [e] at f1
      rw [f1.eq_nil]
      show [] ++ _ = _
      rw [List.nil_append, hrk]
      exact List.filter_eq_self.mpr fun v _ => by simp
    · rw [e] at f1
      rw [List.perm_singleton.mp f1]
      exact rank_size h hs'
  · rw [← hd t ht]
    constructor
    · rintro ⟨a, b, hm, hh⟩
      rcases List.mem_append.mp (hp.mem_iff.mp hm) with hm | hm
      · exact ⟨a, b, hm, hh⟩
      · obtain ⟨x, _, e⟩ := List.mem_map.mp hm
        cases e
    · rintro ⟨a, b, hm, hh⟩
      exact ⟨a, b, hp.mem_iff.mpr (List.mem_append_left _ hm), hh⟩
  · have hq : ARow.rank q ∈ os := by
      rcases List.mem_append.mp (hp.mem_iff.mp hq) with hm | hm
      · exact hm
      · obtain ⟨x, _, e⟩ := List.mem_map.mp hm
        cases e
    have hq : ARow.rank q ∈ os.filter ARow.isRank := List.mem_filter.mpr ⟨hq, rfl⟩
    rcases hr with ⟨e, _⟩ | ⟨s, _, e⟩
    · rw [e] at hq
      cases hq
    · rw [e] at hq
      have := ARow.rank.inj (List.mem_singleton.mp hq)
      rw [this]
      have h1 := List.length_take_le s (p.ranks.map (nmP p))
      have h3 := h.rk.length_eq
      rw [List.length_range] at h3
      rw [List.length_take, List.length_map]
      have := h.n2
      omega
/-! #### blanks filled in -/
def somes (zs : List (Option ARow)) : List ARow := zs.filterMap id
def cellV : Option ARow → V
  | some r => .str (S (lineA r))
  | none => .str (S [])
theorem lineA_ne (r : ARow) : lineA r ≠ [] := by
  unfold lineA
  simp
structure Fl (p : WPlan) (os : List ARow) (i : Nat) (zs : List (Option ARow)) : Prop where
  ex : ∃ (A : List ARow) (B : List (Option ARow)), zs = A.map some ++ B ∧ A.filterMap (startA p.names) = p.starts.take i ∧ (∀ r, some r ∈ B → r.isStart = false) ∧ B.countP Option.isNone = p.starts.length - i ∧ (A ++ somes B).Perm (os ++ (p.starts.take i).map (startR p))
theorem somes_map (C : List ARow) : somes (C.map some) = C := by
  unfold somes
  rw [List.filterMap_map]
  show C.filterMap some = C
  exact List.filterMap_some
theorem no_none : ∀ {B : List (Option ARow)}, none ∉ B → ∃ C : List ARow, B = C.map some
  | [], _ => ⟨[], rfl⟩
  | none :: B, h => absurd (List.mem_cons_self ..) h
  | some r :: B, h => by
    obtain ⟨C, rfl⟩ := no_none fun hm => h (List.mem_cons_of_mem (some r) hm)
    exact ⟨r :: C, rfl⟩
theorem first_none : ∀ {B : List (Option ARow)}, none ∈ B → ∃ (C : List ARow) (B2 : List (Option ARow)), B = C.map some ++ none :: B2
  | [], h => by cases h
  | none :: B, _ => ⟨[], B, rfl⟩
  | some r :: B, h => by
    obtain ⟨C, B2, rfl⟩ := first_none (B := B) ((List.mem_cons.mp h).elim (fun e => by cases e) id)
    exact ⟨r :: C, B2, rfl⟩
theorem startA_none {ns : List (List Nat)} {r : ARow} (h : r.isStart = false) : startA ns r = none := by
  cases r <;> first | rfl | cases h
theorem fl_start {p : WPlan} {os : List ARow} {zs : List (Option ARow)} (h : zs.Perm (os.map some ++ List.replicate p.starts.length none)) (ho : ∀ r ∈ os, r.isStart = false) : Fl p os 0 zs := by
  refine ⟨[], zs, rfl, rfl, fun r hr => ?_, ?_, ?_⟩
  · rcases List.mem_append.mp (h.mem_iff.mp hr) with hm | hm
    · obtain ⟨q, hq, e⟩ := List.mem_map.mp hm
      obtain rfl := Option.some.inj e
      exact ho _ hq
    · have := List.eq_of_mem_replicate hm
      cases this
  · rw [h.countP_eq, List.countP_append, List.countP_replicate, List.countP_eq_zero.mpr, Nat.zero_add, Nat.sub_zero]
    · rfl
    · intro x hm
      obtain ⟨q, _, rfl⟩ := List.mem_map.mp hm
      exact Bool.false_ne_true
  · have := h.filterMap id
    rw [List.filterMap_append] at this
    have e : (List.replicate p.starts.length (none : Option ARow)).filterMap id = [] := filter_map_none fun x hx => List.eq_of_mem_replicate hx
    rw [e, List.append_nil, show (os.map some).filterMap id = os from somes_map os] at this
    rw [List.nil_append, List.take_zero, List.map_nil, List.append_nil]
    exact this
/-- the next blank: where it stands, and what stands ahead -/
theorem fl_step {p : WPlan} {os : List ARow} {i : Nat} {zs : List (Option ARow)} (h : PlanOk p) (hi : i < p.starts.length) (f : Fl p os i zs) : ∃ j, j < zs.length ∧ zs[j]? = some none ∧ (∀ m z, m < j → zs[m]? = some z → z ≠ none) ∧ Fl p os (i + 1) (zs.set j (some (startR p p.starts[i]))) := by
  obtain ⟨A, B, rfl, e1, e2, e3, e4⟩ := f.ex
  have hn : none ∈ B := by
    have : 0 < B.countP Option.isNone := by omega
    obtain ⟨x, hx, hx2⟩ := List.countP_pos_iff.mp this
    cases x with
    | none => exact hx
    | some r => cases hx2
  obtain ⟨C, B2, rfl⟩ := first_none hn
  have hC : ∀ r ∈ C, r.isStart = false := fun r hr => e2 r (List.mem_append_left _ (List.mem_map_of_mem hr))
  have e : A.map some ++ (C.map some ++ none :: B2) = (A ++ C).map some ++ none :: B2 := by rw [List.map_append, List.append_assoc]
  rw [e]
  have hl : ((A ++ C).map some).length = (A ++ C).length := List.length_map _
  refine ⟨(A ++ C).length, by simp, ?_, fun m z hm hz => ?_, ⟨A ++ C ++ [startR p p.starts[i]], B2, ?_, ?_, fun r hr => e2 r (List.mem_append_right _ (List.mem_cons_of_mem _ hr)), ?_, ?_⟩⟩
  · rw [List.getElem?_append_right (by rw [hl]; exact Nat.le_refl _), hl, Nat.sub_self]
    rfl
  · rw [List.getElem?_append_left (by rw [hl]; exact hm), List.getElem?_map] at hz
    intro e
    subst e
    cases hx : (A ++ C)[m]? with
    | none => rw [hx] at hz; cases hz
    | some q => rw [hx] at hz; cases hz
  · rw [List.set_append_right _ _ (by rw [hl]; exact Nat.le_refl _), hl, Nat.sub_self]
    simp
  · rw [List.filterMap_append, List.filterMap_append, e1, filter_map_none (fun r hr => startA_none (hC r hr)), List.append_nil, List.take_add_one, List.getElem?_eq_getElem hi]
    congr 1
    exact start_back h [p.starts[i]] fun x hx => by
      obtain rfl := List.mem_singleton.mp hx
      exact (h.st _ (List.getElem_mem hi)).2.1
  · rw [List.countP_append, List.countP_cons, List.countP_eq_zero.mpr (fun x hm => by obtain ⟨q, _, rfl⟩ := List.mem_map.mp hm; exact Bool.false_ne_true)] at e3
    simp at e3
    omega
  · have e5 : somes (C.map some ++ none :: B2) = C ++ somes B2 := by
      unfold somes
      rw [List.filterMap_append, List.filterMap_cons]
      exact congrArg (· ++ _) (somes_map C)
    rw [e5] at e4
    rw [List.take_add_one, List.getElem?_eq_getElem hi]
    show (A ++ C ++ [startR p p.starts[i]] ++ somes B2).Perm (os ++ (p.starts.take i ++ [p.starts[i]]).map (startR p))
    rw [List.map_append, ← List.append_assoc]
    have p1 : (A ++ C ++ [startR p p.starts[i]] ++ somes B2).Perm ((A ++ (C ++ somes B2)) ++ [startR p p.starts[i]]) := by
      rw [← List.append_assoc, List.append_assoc (A ++ C), List.append_assoc (A ++ C)]
      exact List.Perm.append_left _ List.perm_append_comm
    exact p1.trans (e4.append_right _)
theorem fl_end {p : WPlan} {os : List ARow} {zs : List (Option ARow)} (f : Fl p os p.starts.length zs) : ∃ rs : List ARow, zs = rs.map some ∧ rs.filterMap (startA p.names) = p.starts ∧ rs.Perm (os ++ p.starts.map (startR p)) := by
  obtain ⟨A, B, rfl, e1, e2, e3, e4⟩ := f.ex
  have hn : none ∉ B := fun hm => by
    have : 0 < B.countP Option.isNone := List.countP_pos_iff.mpr ⟨none, hm, rfl⟩
    omega
  obtain ⟨C, rfl⟩ := no_none hn
  rw [somes_map] at e4
  rw [List.take_length] at e1 e4
  refine ⟨A ++ C, (List.map_append ..).symm, ?_, e4⟩
  rw [List.filterMap_append, e1, filter_map_none (fun r hr => startA_none (e2 r (List.mem_map_of_mem hr))), List.append_nil]
theorem cells_some (rs : List ARow) : (rs.map some).map cellV = strR (rs.map lineA) := by
  unfold strR
  rw [List.map_map, List.map_map]
  rfl

end Wv
end WvRL_
section WvRV_
set_option Elab.async false
set_option linter.all false
set_option maxRecDepth 100000
set_option maxHeartbeats 4000000
namespace Wv
open PySem L2
open SX (S S_len S_inj)
local macro_rules | `(tactic| walk_at "rd") => `(tactic| (try simp only [tVar, tC, tB, tAnd, tOr, tNot, tAndV, tOrV, tNotV, tIf, tNext, tSeq, tBreak, tCont, tDrop, tRet, tRetN, tIfS, gName, gNil, gCons, gTup, gSub, tAsg, tPar, tAug, tOp, tUn, rI, rI0, rU, rEq, rNe, tTest, tFld, tNil, tCons, tTup, tLst, tCB, tNoPart, tPart, tSl, rIxL, rIxT, rIxS, rSlL, rSlS, tBM0, tBM, rAppend, rExtend, rCat, rRep, rSetL, tM0, tM1, tCall, tMeth, tMake, sFld, sFldAug, rAdd, rSub, ipI, tBM0,
  scal_ss, scal_ii, scal_bb, scal_ns, scal_sn, scal_nn, tyV_str, L2.start, List.map_cons, List.map_nil, List.length_cons, List.length_nil, List.replicate, List.cons_append, List.nil_append, List.append_nil, List.getElem?_cons_zero, List.getElem?_cons_succ, List.set_cons_zero, List.set_cons_succ, Nat.reduceAdd, Nat.reduceSub, Nat.zero_add, Nat.sub_self, Nat.add_one_sub_one,
  Option.some.injEq, exists_eq_left, exists_eq_left', exists_eq', exists_eq, V.int.injEq, V.str.injEq, V.ref.injEq, V.bl.injEq, reduceCtorEq, List.cons.injEq, and_true, true_and, exists_and_left, exists_and_right, and_assoc, decide_true, decide_false, if_true, if_false, ite_true, ite_false, Bool.false_eq_true, Bool.true_eq_false, eq_self_iff_true, cx_K, nox_K, tMkSyn, tMkChk, tYes, bne, ne_eq, not_false_eq_true, not_true_eq_false, Bool.not_true, Bool.not_false, decide_eq_true_eq, Bool.not_eq_true', decide_eq_false_iff_not]))
/-! ### `_law_loosened` -/
open LamX
theorem str_pauseB : ("pause " : Str) = S (pauseK ++ [32]) := by decide +kernel
theorem str_rankB : ("rank " : Str) = S (rankK ++ [32]) := by decide +kernel
theorem line_pause (a b : Nat) : lineA (.pause a b) = pauseK ++ [32] ++ numS a ++ [32] ++ numS b ++ [59] := by
  show (pauseK ++ ([32] ++ (numS a ++ ([32] ++ numS b)))) ++ [59] = _
  simp
def cutIs (k : Str) : V → Bool
  | .str z => decide (cutS z none (some 5) = k)
  | _ => false
theorem cut_start (p : WPlan) : (strR ((arowsP p).map lineA)).filter (cutIs "start") = strR ((p.starts.map (startR p)).map lineA) := by
  rw [filter_lines (g := ARow.isStart) (arowsP p), arows_starts]
  intro r hr
  unfold cutIs
  dsimp only
  rw [cut_5, str_start, Bool.eq_iff_iff, decide_eq_true_eq, S_eq, is_start5 r (arows_head p r hr)]
theorem lineP_len {p : WPlan} (h : PlanOk p) {r : ARow} (hr : r ∈ arowsP p) : (lineA r).length ≤ 1000 := by
  have hG := plan_good h
  have : r.w ∈ rowsP p := by
    rw [rows_arows]
    exact List.mem_map_of_mem (List.mem_cons_of_mem _ (List.mem_cons_of_mem _ (List.mem_cons_of_mem _ hr)))
  obtain ⟨a, b⟩ := rowsP_le hG _ this
  unfold lineA
  have h1 := joinL_len [32] r.w
  rw [List.length_append]
  simp at h1 ⊢
  omega
theorem pause_in {p : WPlan} {a b : Nat} (h : ARow.pause a b ∈ arowsP p) : (a, b) ∈ runsA p.paused := by
  unfold arowsP at h
  rcases List.mem_append.mp h with h | h
  · rcases List.mem_append.mp h with h | h
    · split at h
      · cases h
      · cases List.mem_singleton.mp h
    · obtain ⟨x, _, e⟩ := List.mem_map.mp h
      cases e
  · obtain ⟨x, hx, e⟩ := List.mem_map.mp h
    cases e
    exact hx
theorem is_pause {r : ARow} (h : r.isPause = true) : ∃ a b, r = .pause a b := by
  cases r with
  | pause a b => exact ⟨a, b, rfl⟩
  | _ => cases h
theorem strOk_S {z : List Nat} (h : ∀ c ∈ z, c < 128) : PyData.strOk (S z) = true := by
  unfold PyData.strOk
  rw [Array.all_eq_true']
  intro c hc
  have : c ∈ z := by
    have h2 : (S z).cps.toList = z := rfl
    rw [← h2]
    exact Array.mem_toList_iff.mpr hc
  have := h c this
  rw [decide_eq_true_eq]
  omega
theorem flat_S {l : List (List Nat)} (h : ∀ z ∈ l, ∀ c ∈ z, c < 128) : ∀ x ∈ strR l, FlatV x := fun x hx => by
  obtain ⟨z, hz, rfl⟩ := List.mem_map.mp hx
  exact .inr ⟨_, rfl, strOk_S (h z hz)⟩
theorem strs_eqv : ∀ l m : List (List Nat), PyData.eqv (.list ((strR l).map pd)) (.list ((strR m).map pd)) = decide (l = m)
  | [], [] => by decide
  | [], _ :: _ => by simp [strR, PyData.eqv, PyData.eqvAll]
  | _ :: _, [] => by simp [strR, PyData.eqv, PyData.eqvAll]
  | a :: l, b :: m => by
    have ih := strs_eqv l m
    rw [PyData.eqv] at ih
    show PyData.eqvAll (PyData.str (S a) :: (strR l).map pd) (PyData.str (S b) :: (strR m).map pd) = _
    rw [PyData.eqvAll, ih, Bool.eq_iff_iff, Bool.and_eq_true, decide_eq_true_eq, decide_eq_true_eq, List.cons.injEq]
    have : (PyData.eqv (.str (S a)) (.str (S b)) = true) ↔ a = b := by
      rw [PyData.eqv]
      simp [S_eq]
    rw [this]
theorem name_ascii {w : List Nat} (h : NameW w) : ∀ c ∈ w, c < 128 := fun c hc => by
  have := h.2.2.1 c hc
  unfold letters at this
  rw [List.mem_range'_1] at this
  omega
theorem cutV_drop {xs : List V} {n : Nat} : cutV xs (some ((n : Nat) : Int)) none = xs.drop n := by
  have h1 : HT.sIx xs.length 0 (some ((n : Nat) : Int)) = min n xs.length := HT.sIx_nat ..
  unfold cutV
  rw [HT.sIx_none, h1]
  by_cases h : n ≤ xs.length
  · rw [Nat.min_eq_left h, List.take_of_length_le (by rw [List.length_drop]; omega)]
  · rw [Nat.min_eq_right (by omega), List.drop_eq_nil_of_le (Nat.le_refl _), List.drop_eq_nil_of_le (by omega), List.take_nil]
theorem strR_take (l : List (List Nat)) (n : Nat) : (strR l).take n = strR (l.take n) := (List.map_take ..).symm
theorem strR_drop (l : List (List Nat)) (n : Nat) : (strR l).drop n = strR (l.drop n) := (List.map_drop ..).symm
theorem strR_filter {f : V → Bool} {g : List Nat → Bool} : ∀ (l : List (List Nat)), (∀ z ∈ l, f (.str (S z)) = g z) → (strR l).filter f = strR (l.filter g)
  | [], _ => rfl
  | z :: l, h => by
    have ih := strR_filter l fun q hq => h q (List.mem_cons_of_mem _ hq)
    show (V.str (S z) :: strR l).filter f = _
    rw [List.filter_cons, List.filter_cons, h z (List.mem_cons_self ..), ih]
    split <;> rfl
theorem okW_ascii {w : List Nat} (h : OkW w) : ∀ c ∈ w, c < 128 := fun c hc => by
  rcases h with rfl | ⟨_, _, h⟩ | ⟨_, h⟩
  · obtain rfl := List.mem_singleton.mp hc
    decide
  · have := h c hc
    unfold letters at this
    rw [List.mem_range'_1] at this
    omega
  · have := h c hc
    unfold digits at this
    rw [List.mem_range'_1] at this
    omega
theorem join_ascii : ∀ {l : List (List Nat)}, (∀ w ∈ l, ∀ c ∈ w, c < 128) → ∀ c ∈ TL.joinL [32] l, c < 128
  | [], _, c, h => by cases h
  | [w], hl, c, h => hl w (List.mem_singleton.mpr rfl) c h
  | w :: v :: l, hl, c, h => by
    have h : c ∈ w ++ ([32] ++ TL.joinL [32] (v :: l)) := h
    rcases List.mem_append.mp h with h | h
    · exact hl w (List.mem_cons_self ..) c h
    rcases List.mem_append.mp h with h | h
    · obtain rfl := List.mem_singleton.mp h
      decide
    · exact join_ascii (fun x hx => hl x (List.mem_cons_of_mem _ hx)) c h
theorem line_ascii {r : ARow} (h : r.ok) : ∀ c ∈ lineA r, c < 128 := fun c hc => by
  unfold lineA at hc
  have hw := row_okW h
  rcases List.mem_append.mp hc with hc | hc
  · exact join_ascii (fun w hw' => okW_ascii (hw w (List.mem_append_left _ hw'))) c hc
  · obtain rfl := List.mem_singleton.mp hc
    decide
theorem ifs_cut {tt : TT} {a b : TS} {D : Ends} {σ : L2.St} {H : Hp} (C : Hp → Prop) (h2 : ∀ A : Hp → Prop, (∀ H1, C H1 → A H1) → tt σ H fun c H1 => if c = true then A H1 else b D σ H1) (h1 : ∀ H1, C H1 → a D σ H1) : tIfS tt a b D σ H := h2 (a D σ) h1
section
variable {P : Program} {w : World} {K : PySem.W.Frag} {mg : Str → Option Value} {base : Heap}
theorem sc__law_loosened : FnScope ["_law_d", "_law_plan", "_law_lines", "_law_starts", "_law_line", "_law_others", "_law_tick", "_law_ranks", "_law_few", "_law_k", "_law_size", "_law_name", "_law_found"] ["_law_d", "_law_plan", "_law_lines"] (defScope s__law_loosened) := ⟨rfl, rfl, rfl, by decide +kernel, rfl, by decide +kernel, by decide +kernel⟩
def sp__law_loosened : Sp := fun vs H Q _ => ∃ (d pl ll : Addr) (p : WPlan), vs = [.ref d, .ref pl, .ref ll] ∧ GoodD H d ∧ PlanAt (hide H d) pl p ∧ PlanOk p ∧ AtD d H ll (.lst (strR ((arowsP p).map lineA))) ∧
  ∀ q rs H', Stp d H H' → H q = none → AtD d H' q (.lst (strR (rs.map lineA))) → RowsOk p rs → rs.length ≤ 150 → Q (.ref q) H'
theorem ok__law_loosened {f : Addr} {fd : FuncData} (F : Fun K "_law_loosened" "_law_loosened" s__law_loosened f fd) (T : TopF w K mg)
    (D__law_below : DF P w K mg base CX0 1 "_law_below" ["_law_d", "_law_limit"] sp__law_below) (D__law_shuffled : DF P w K mg base CX0 2 "_law_shuffled" ["_law_d", "_law_items"] (sp__law_shuffled K)) : FnOk P w K mg base CX0 3 f fd ["_law_d", "_law_plan", "_law_lines"] sp__law_loosened := by
  refine F.ok sc__law_loosened (fun vs H Q E h => ?_) (fun cdv A outer s H vs Q E hr h => ?_)
  · obtain ⟨d, pl, ll, p, rfl, _⟩ := h
    rfl
  · obtain ⟨d, pl, ll, p, rfl, gd, hP, hO, hll, k⟩ := h
    refine ⟨_, (pss_cons (ps_setLc (i := 3) (own := [("_law_line", 4)]) (g := gName 4) (tt := (tTest (tOp _ (tSl rSlS (tVar 4) tNoPart (tPart (tC (.int 5)))) (tC (.str "start"))))) (te := (tVar 4)) (by rfl) sc__law_loosened.nd rfl rfl (sw_true rfl rfl rfl (by decide +kernel)) (pi_list (pv 2)) (blkOk_by (N := ["_law_d", "_law_plan", "_law_lines", "_law_starts", "_law_line", "_law_others", "_law_tick", "_law_ranks", "_law_few", "_law_k", "_law_size", "_law_name", "_law_found"]) (sc := defScope s__law_loosened) (by decide +kernel)) (fun _ _ _ _ _ => (pg_name (i := 4) sc__law_loosened.nd rfl (Or.inl rfl))) (fun _ _ _ _ _ => pts_one (pt_cmpR op_eq (pe_slice sl_str (pv 4) po_none (po_some pe_int)) pe_str (nomark _))) (fun _ _ _ _ _ => (pv 4)))
      (pss_cons (ps_setLc (i := 5) (own := [("_law_tick", 6)]) (g := gName 6) (tt := tYes) (te := (tOp _ (tOp _ (tOp _ (tOp _ (tC (.str "pause ")) (tCB _ (tCons (tVar 6) tNil))) (tC (.str " "))) (tCB _ (tCons (tVar 6) tNil))) (tC (.str ";")))) (by rfl) sc__law_loosened.nd rfl rfl (sw_true rfl rfl rfl (by decide +kernel)) (pi_list (pe_ix ix_tup (pv 1) pe_int (fun _ _ => rfl))) (blkOk_by (N := ["_law_d", "_law_plan", "_law_lines", "_law_starts", "_law_line", "_law_others", "_law_tick", "_law_ranks", "_law_few", "_law_k", "_law_size", "_law_name", "_law_found"]) (sc := defScope s__law_loosened) (by decide +kernel)) (fun _ _ _ _ _ => (pg_name (i := 6) sc__law_loosened.nd rfl (Or.inl rfl))) (fun _ _ _ _ _ => pts_nil) (fun _ _ _ _ _ => (pe_op op_add_str (pe_op op_add_str (pe_op op_add_str (pe_op op_add_str pe_str (pe_callTy call_str_int (by rfl) T.z_str (by decide +kernel) (pa_cons (pv 6) pa_nil))) pe_str) (pe_callTy call_str_int (by rfl) T.z_str (by decide +kernel) (pa_cons (pv 6) pa_nil))) pe_str)))
      (pss_cons (ps_set (i := 5) sc__law_loosened.nd rfl (Or.inl rfl) (pe_op op_cat (pv 5) (pe_lc (own := [("_law_line", 4)]) (g := gName 4) (tt := (tAnd (tTest (tOp _ (tSl rSlS (tVar 4) tNoPart (tPart (tC (.int 5)))) (tC (.str "pause")))) (tTest (tOp _ (tCall sp__law_below [] E0 (tCons (tVar 0) (tCons (tC (.int 2)) tNil))) (tC (.int 0)))))) (te := (tVar 4)) rfl sc__law_loosened.nd (pi_list (pv 2)) (blkOk_by (N := ["_law_d", "_law_plan", "_law_lines", "_law_starts", "_law_line", "_law_others", "_law_tick", "_law_ranks", "_law_few", "_law_k", "_law_size", "_law_name", "_law_found"]) (sc := defScope s__law_loosened) (by decide +kernel)) (fun _ _ _ _ _ => (pg_name (i := 4) sc__law_loosened.nd rfl (Or.inl rfl))) (fun _ _ _ _ _ => pts_one (PW.pt (pw_and (pt_cmpR op_eq (pe_slice sl_str (pv 4) po_none (po_some pe_int)) pe_str (nomark _)) (pw_and1 (pt_cmpR op_eq (pe_call D__law_below.G (hr.mono (by decide)) rfl D__law_below.mg D__law_below.kp D__law_below.b .nil pass0 (pa_cons (pv 0) (pa_cons pe_int pa_nil))) pe_int (nomark _)))))) (fun _ _ _ _ _ => (pv 4)))))
      (pss_cons (ps_asg (pe_tup (pa_cons (pe_lc (own := [("_law_k", 9)]) (g := gName 9) (tt := tYes) (te := (tOp (rIxT K) (tOp (rIxT K) (tVar 1) (tC (.int 2))) (tVar 9))) rfl sc__law_loosened.nd (pi_list (pe_ix ix_tup (pv 1) pe_int (fun _ _ => rfl))) (blkOk_by (N := ["_law_d", "_law_plan", "_law_lines", "_law_starts", "_law_line", "_law_others", "_law_tick", "_law_ranks", "_law_few", "_law_k", "_law_size", "_law_name", "_law_found"]) (sc := defScope s__law_loosened) (by decide +kernel)) (fun _ _ _ _ _ => (pg_name (i := 9) sc__law_loosened.nd rfl (Or.inl rfl))) (fun _ _ _ _ _ => pts_nil) (fun _ _ _ _ _ => (pe_ix ix_tup (pe_ix ix_tup (pv 1) pe_int (fun _ _ => rfl)) (pv 9) (fun _ _ => rfl)))) (pa_cons (pe_lst pa_nil) pa_nil))) (pg_tup (by rfl) (pgs_cons (pg_name (i := 7) sc__law_loosened.nd rfl (Or.inr rfl)) (pgs_cons (pg_name (i := 8) sc__law_loosened.nd rfl (Or.inl rfl)) pgs_nil))))
      (pss_cons (ps_for PassesOwn.never rfl (pi_range2 (by rfl) T.z_range (pa_cons pe_int (pa_cons (pe_op op_add (pe_callB call_len_seq (by rfl) T.z_len (by decide +kernel) (pa_cons (pv 7) pa_nil)) pe_int) pa_nil))) (pg_name (i := 10) sc__law_loosened.nd rfl (Or.inr rfl)) (pss_one (ps_if (pt_cmpR (op_eqD hr.units) (pe_slice sl_list (pv 7) (po_some (pv 10)) po_none) (pe_lc (own := [("_law_name", 11)]) (g := gName 11) (tt := (tTest (tOp (rIn K true) (tVar 11) (tSl (rSlL K) (tVar 7) tNoPart (tPart (tVar 10)))))) (te := (tVar 11)) rfl sc__law_loosened.nd (pi_tup (pe_ix ix_tup (pv 1) pe_int (fun _ _ => rfl))) (blkOk_by (N := ["_law_d", "_law_plan", "_law_lines", "_law_starts", "_law_line", "_law_others", "_law_tick", "_law_ranks", "_law_few", "_law_k", "_law_size", "_law_name", "_law_found"]) (sc := defScope s__law_loosened) (by decide +kernel)) (fun _ _ _ _ _ => (pg_name (i := 11) sc__law_loosened.nd rfl (Or.inl rfl))) (fun _ _ _ _ _ => pts_one (pt_cmpR op_notIn_seq (pv 11) (pe_slice sl_list (pv 7) po_none (po_some (pv 10))) (by rfl))) (fun _ _ _ _ _ => (pv 11))) (nomark _)) (pss_one (ps_expr (pe_bm PySem.F.plainAttrs_list PySem.F.slot_list_append PySem.F.type_list_append mt_append (pv 8) (pa_cons (pv 10) pa_nil)))) pss_nil)))
      (pss_cons (ps_if (PW.pt (pw_or (pt_cmpR (op_neD hr.units) (pe_ix ix_tup (pv 1) pe_int (fun _ _ => rfl)) (pe_listRg rfl (by rfl) T.z_list (prg_1 (by rfl) T.z_range (pe_callB call_len_seq (by rfl) T.z_len (by decide +kernel) (pa_cons (pv 7) pa_nil)))) (nomark _)) (pw_or1 (pt_cmpR op_eq (pe_call D__law_below.G (hr.mono (by decide)) rfl D__law_below.mg D__law_below.kp D__law_below.b .nil pass0 (pa_cons (pv 0) (pa_cons pe_int pa_nil))) pe_int (nomark _))))) (pss_one (ps_expr (pe_bm PySem.F.plainAttrs_list PySem.F.slot_list_append PySem.F.type_list_append mt_append (pv 5) (pa_cons (pe_op op_add_str (pe_op op_add_str pe_str (pe_join pe_str (pe_slice sl_list (pv 7) po_none (po_some (pe_ix ix_list (pv 8) (pe_call D__law_below.G (hr.mono (by decide)) rfl D__law_below.mg D__law_below.kp D__law_below.b .nil pass0 (pa_cons (pv 0) (pa_cons (pe_callB call_len_seq (by rfl) T.z_len (by decide +kernel) (pa_cons (pv 8) pa_nil)) pa_nil))) (fun _ _ => rfl)))))) pe_str) pa_nil)))) pss_nil)
      (pss_cons (ps_set (i := 12) sc__law_loosened.nd rfl (Or.inl rfl) (pe_call D__law_shuffled.G (hr.mono (by decide)) rfl D__law_shuffled.mg D__law_shuffled.kp D__law_shuffled.b .nil pass0 (pa_cons (pv 0) (pa_cons (pe_op op_cat (pv 5) (pe_op op_rep (pe_lst (pa_cons pe_str pa_nil)) (pe_callB call_len_seq (by rfl) T.z_len (by decide +kernel) (pa_cons (pv 3) pa_nil)))) pa_nil))))
      (pss_cons (ps_for PassesOwn.never rfl (pi_list (pv 3)) (pg_name (i := 4) sc__law_loosened.nd rfl (Or.inl rfl)) (pss_one (ps_asg (pv 4) (pg_sub (pv 12) (pe_bm PySem.F.plainAttrs_list PySem.F.slot_list_index PySem.F.type_list_index mt_index (pv 12) (pa_cons pe_str pa_nil)) set_list))))
      (pss_one (ps_ret (pv 12))))))))))), ?_⟩
    obtain ⟨na, ra, sa, qa, sas, hpl, hna, hra, hsa, hE, hqa⟩ := id hP.ex
    have atd : ∀ {b : Addr} {o : HO}, hide H d b = some o → AtD d H b o := fun {b o} h => ⟨(hide_some h).1, (hide_some h).2⟩
    have hpl := atd hpl
    have hna := atd hna
    have hra := atd hra
    have hqa := atd hqa
    have hal := arows_len hO
    have hq60 : p.paused.length ≤ 60 := by have := hO.qn; have := hO.l2; omega
    have hql : ∀ t ∈ p.paused, t ≤ 99 := fun t ht => by have := hO.qk t ht; have := hO.l2; omega
    obtain ⟨rl1, rl2⟩ := runsA_le p.paused fun t ht => by have := hql t ht; omega
    refine seq_cut (fun σ H' => ∃ st, Stp d H H' ∧ AtD d H' st (.lst (strR ((p.starts.map (startR p)).map lineA))) ∧ σ = sgO d pl ll (some (.ref st)) none none none none none none none none none) (fun J hJ => ?_) ?_
    · walk_at "rd"
      refine ⟨_, rfl, ll, rfl, ⟨_, SqL.of hll.at_⟩, fun D nD => ?_⟩
      refine lc_filt (n := 4) (xs := strR ((arowsP p).map lineA)) (cutIs "start") walk_list nD (fun H' s => SqL.of (s _ _ hll.at_)) (by simp [strR]; omega) (fun i x H' hx s k' hk => ?_) (fun x => ⟨rfl, rfl, rfl⟩) (fun H' s hD => ?_)
      · obtain ⟨z, hz, rfl⟩ := List.mem_map.mp (List.mem_of_getElem? hx)
        obtain ⟨r, hr', rfl⟩ := List.mem_map.mp hz
        have := lineP_len hO hr'
        walk_at "rd"
        exact ⟨by rw [S_len]; exact line_of (by omega), hk _ (Same.refl _)⟩
      · rw [cut_start] at hD
        exact hJ _ _ ⟨D, Stp.same s gd, ⟨goodd_ne gd nD, hD⟩, rfl⟩
    rintro _ H1 ⟨st, s1, hst, rfl⟩
    refine seq_cut (fun σ H' => ∃ ot, Stp d H H' ∧ H ot = none ∧ AtD d H' ot (.lst (strR ((p.paused.map fun t => ARow.pause t t).map lineA))) ∧ AtD d H' st (.lst (strR ((p.starts.map (startR p)).map lineA))) ∧ σ = sgO d pl ll (some (.ref st)) none (some (.ref ot)) none none none none none none none) (fun J hJ => ?_) ?_
    · unfold sgO
      walk_at "rd"
      have hpl1 := hpl.mono s1
      have hqa1 := hqa.mono s1
      refine ⟨_, rfl, pl, _, 5, .ref qa, rfl, rfl, SqT.of hpl1.at_, atI_nat (j := 5) rfl, qa, rfl, ⟨_, SqL.of hqa1.at_⟩, fun D nD => ?_⟩
      refine lc_map (ys := strR ((p.paused.map fun t => ARow.pause t t).map lineA)) nD hqa1.at_ (by simp [strR]) (by simp; omega) (fun i x y H' k' hx hy s6 hk => ?_) ?_
      · rw [List.getElem?_map] at hx
        obtain ⟨t, ht, rfl⟩ := Option.map_eq_some_iff.mp hx
        unfold strR at hy
        rw [List.getElem?_map, List.getElem?_map, List.getElem?_map, ht] at hy
        obtain rfl := Option.some.inj hy
        have ht99 := hql t (List.mem_of_getElem? ht)
        have hn := numS_len (n := t) (by omega)
        walk_at "rd"
        simp only [S_num, str_pauseB, str_blank, str_semi, S_len, SX.S_cat]
        have h6 : (pauseK ++ [32]).length = 6 := rfl
        have h1 : ([32] : List Nat).length = 1 := rfl
        have h1' : ([59] : List Nat).length = 1 := rfl
        refine ⟨log_le (by omega), line_of (by omega), line_of (by rw [List.length_append]; omega), log_le (by omega), line_of (by rw [List.length_append, List.length_append]; omega), line_of (by rw [List.length_append, List.length_append, List.length_append]; omega), ?_⟩
        rw [← line_pause]
        exact hk
      · exact hJ _ _ ⟨D, s1.new nD, s1.free nD, .new s1.g nD, hst.mono ((Stp.refl s1.g).new nD), rfl⟩
    rintro _ H2 ⟨ot, s2, no, hot, hst, rfl⟩
    refine seq_cut (fun σ H' => ∃ (ot : Addr) (ys : List (Nat × Nat)), Stp d H H' ∧ H ot = none ∧ ys.length ≤ 73 ∧ (∀ y ∈ ys, y ∈ runsA p.paused) ∧ AtD d H' ot (.lst (strR ((p.paused.map (fun t => ARow.pause t t) ++ ys.map fun r => ARow.pause r.1 r.2).map lineA))) ∧ AtD d H' st (.lst (strR ((p.starts.map (startR p)).map lineA))) ∧ st ≠ ot ∧ σ = sgO d pl ll (some (.ref st)) none (some (.ref ot)) none none none none none none none) (fun J hJ => ?_) ?_
    · unfold sgO
      walk_at "rd"
      have hll2 := hll.mono s2
      refine ⟨_, rfl, ll, rfl, ⟨_, SqL.of hll2.at_⟩, fun D nD => ?_⟩
      refine lc_list (xs := strR ((arowsP p).map lineA)) (fun i H' => ∃ ys : List (Nat × Nat), ys.length ≤ i ∧ (∀ y ∈ ys, y ∈ runsA p.paused) ∧ Stp d H2 H' ∧ AtD d H' D (.lst (strR ((ys.map fun r => ARow.pause r.1 r.2).map lineA)))) ⟨[], Nat.zero_le _, (fun y h => by cases h), (Stp.refl s2.g).new nD, .new s2.g nD⟩ (fun i H' _ e => ?_) (fun i x H' hx e => ?_) (fun H' e => ?_)
      · obtain ⟨_, _, _, s4, _⟩ := e
        exact SqL.of (hll2.mono s4).at_
      · obtain ⟨ys, y1, y3, s4, hD⟩ := e
        obtain ⟨z, hz, rfl⟩ := List.mem_map.mp (List.mem_of_getElem? hx)
        obtain ⟨r, hr', rfl⟩ := List.mem_map.mp hz
        have hlen := lineP_len hO hr'
        have hi := (List.getElem?_eq_some_iff.mp hx).1
        simp only [strR, List.length_map] at hi
        have hrh := arows_head p r hr'
        show gName 4 _ (sgO d pl ll (some (.ref st)) none (some (.ref ot)) none none none none none none none) _ _
        unfold sgO
        walk_at "rd"
        refine ⟨rfl, by rw [S_len]; exact line_of (by omega), ?_⟩
        have e5 : (cutS (S (lineA r)) none (some 5) = "pause") ↔ r.isPause = true := by
          rw [cut_5, str_pause, S_eq, is_pause5 r hrh]
        by_cases hp : r.isPause = true
        · rw [if_pos (e5.mpr hp)]
          obtain ⟨a, b, rfl⟩ := is_pause hp
          refine blK 2 (by decide) (by decide) s4.g fun q H5 hq s5 => ⟨scal_ii.mpr True.intro, ?_⟩
          have hD5 := hD.mono s5
          by_cases hq0 : V.int ((q : Nat) : Int) = V.int 0
          · rw [if_pos hq0]
            refine ⟨_, hD5.at_, line_lt (by simp [strR]; omega), ys ++ [(a, b)], by rw [List.length_append]; exact Nat.succ_le_succ y1, fun y hy => ?_, (s4.trans s5).mut nD hD5.ne, ?_⟩
            · rcases List.mem_append.mp hy with hy | hy
              · exact y3 y hy
              · obtain rfl := List.mem_singleton.mp hy
                exact pause_in hr'
            · rw [List.map_append, List.map_append, ← strR_app']
              exact hD5.set
          · rw [if_neg hq0]
            exact ⟨ys, Nat.le_succ_of_le y1, y3, s4.trans s5, hD5⟩
        · rw [if_neg (fun h => hp (e5.mp h))]
          exact ⟨ys, Nat.le_succ_of_le y1, y3, s4, hD⟩
      · obtain ⟨ys, y1, y3, s4, hD⟩ := e
        have hal' : (strR ((arowsP p).map lineA)).length ≤ 73 := by simp [strR]; omega
        have s24 := s2.trans s4
        refine ⟨D, rfl, _, (hot.mono s4).at_, _, hD.at_, line_of (by simp [strR]; omega), fun q nq => ?_⟩
        rw [strR_app', ← List.map_append]
        exact hJ _ _ ⟨q, ys, s24.new nq, s24.free nq, by omega, y3, .new s24.g nq, hst.mono (s4.new nq), ne_of_none (hst.mono s4).at_ nq, rfl⟩
    rintro _ H3 ⟨ot, ys, s3, no, hyl, hys, hot, hst, nst, rfl⟩
    have hnl := hO.n2
    have hrkl : p.ranks.length = p.names.length := by rw [hO.rk.length_eq, List.length_range]
    refine seq_cut (fun σ H' => ∃ (rq fw : Addr) , Stp d H3 H' ∧ AtD d H' rq (.lst (strR (p.ranks.map (nmP p)))) ∧ AtD d H' fw (.lst []) ∧ H3 fw = none ∧ rq ≠ fw ∧ σ = sgO d pl ll (some (.ref st)) none (some (.ref ot)) none (some (.ref rq)) (some (.ref fw)) none none none none) (fun J hJ => ?_) ?_
    · unfold sgO
      walk_at "rd"
      have s3' := s3
      refine ⟨_, rfl, pl, _, 3, .ref ra, rfl, rfl, SqT.of (hpl.mono s3).at_, atI_nat (j := 3) rfl, ra, rfl, ⟨_, SqL.of (hra.mono s3).at_⟩, fun D nD => ?_⟩
      refine lc_map (ys := strR (p.ranks.map (nmP p))) nD (hra.mono s3).at_ (by simp [strR]) (by simp; omega) (fun i x y H' k' hx hy s6 hk => ?_) ?_
      · rw [List.getElem?_map] at hx
        obtain ⟨v, hv, rfl⟩ := Option.map_eq_some_iff.mp hx
        unfold strR at hy
        rw [List.getElem?_map, List.getElem?_map, hv] at hy
        obtain rfl := Option.some.inj hy
        have hvl : v < p.names.length := List.mem_range.mp (hO.rk.mem_iff.mp (List.mem_of_getElem? hv))
        exact ⟨_, rfl, pl, _, 2, .ref na, rfl, rfl, SqT.of (s6 _ _ (hpl.mono s3).at_), atI_nat (j := 2) rfl, _, rfl, na, _, _, _, rfl, rfl, SqT.of (s6 _ _ (hna.mono s3).at_), atI_nat (nmP_get hvl), hk⟩
      · have sD := (Stp.refl s3.g).new (o := .lst (strR (p.ranks.map (nmP p)))) nD
        have aD : AtD d (upd H3 D (.lst (strR (p.ranks.map (nmP p))))) D (.lst (strR (p.ranks.map (nmP p)))) := .new s3.g nD
        generalize upd H3 D (.lst (strR (p.ranks.map (nmP p)))) = H4 at *
        refine ⟨Nat.zero_le _, fun e ne => ⟨by decide, fun q nq => ?_⟩⟩
        have se := (Stp.refl sD.g).new (o := .lst []) ne
        have ae : AtD d (upd H4 e (.lst [])) e (.lst []) := .new sD.g ne
        have nDe := ne_of_none aD.at_ ne
        have nfe := sD.free ne
        generalize upd H4 e (.lst []) = H5 at *
        have sq := (Stp.refl se.g).new (o := .tup [.ref D, .ref e]) nq
        exact ⟨_, SqT.of upd_same, rfl, _, _, rfl, _, _, rfl, rfl, hJ _ _ ⟨D, e, (sD.trans se).trans sq, aD.mono (se.trans sq), ae.mono sq, nfe, nDe, rfl⟩⟩
    rintro _ H4 ⟨rq, fw, s4, hrq, hfw, nfw, nrf, rfl⟩
    have s04 := s3.trans s4
    have hnn : ∀ n ∈ p.names, NameW n := fun n hn => pool_name n (hO.np n hn)
    have hnm : ∀ n ∈ p.ranks.map (nmP p), NameW n := fun n hn => hnn n ((names_ok hO).2.1 n hn)
    refine seq_cut (fun σ H' => ∃ (fs : List Nat) (v10 : Option V), fs ≠ [] ∧ fs.length ≤ 8 ∧ (∀ z ∈ fs, 1 ≤ z ∧ z ≤ p.ranks.length ∧ sizeOk p z) ∧ Stp d H3 H' ∧ AtD d H' fw (.lst (fs.map fun v => V.int (v : Nat))) ∧ AtD d H' rq (.lst (strR (p.ranks.map (nmP p)))) ∧ σ = sgO d pl ll (some (.ref st)) none (some (.ref ot)) none (some (.ref rq)) (some (.ref fw)) none v10 none none) (fun J hJ => ?_) ?_
    · unfold sgO
      walk_at "rd"
      refine ⟨_, rfl, rq, rfl, _, .inl (SqL.of hrq.at_), _, _, rfl, rfl, 1, _, rfl, ⟨by decide, by decide, by simp [strR]; omega, by simp [strR]; omega⟩, ?_⟩
      have e8 : (((strR (p.ranks.map (nmP p))).length : Nat) + 1 - 1 : Int).toNat = p.ranks.length := by simp [strR]
      rw [e8]
      refine for_it (walk_range (lo := 1) (n := p.ranks.length)) (fun i σ H' => ∃ (fs : List Nat) (v10 : Option V), fs = (List.range' 1 i).filter (fun z => decide (sizeOk p z)) ∧ Stp d H3 H' ∧ AtD d H' fw (.lst (fs.map fun v => V.int (v : Nat))) ∧ AtD d H' rq (.lst (strR (p.ranks.map (nmP p)))) ∧ σ = sgO d pl ll (some (.ref st)) none (some (.ref ot)) none (some (.ref rq)) (some (.ref fw)) none v10 none none)
        ⟨[], none, rfl, s4, hfw, hrq, rfl⟩ (fun _ _ _ _ _ => True.intro) ?_ ?_
      · rintro i x σ H6 H7 hi ⟨fs, v10, e1, s6, hfw6, hrq6, rfl⟩ ⟨rfl, rfl⟩
        unfold sgO
        walk_at "rd"
        have s46 := s3.trans s6
        subst e1
        rw [show (1 + (i : Int)) = ((i + 1 : Nat) : Int) by omega]
        refine ⟨_, SqL.of hrq6.at_, fun p1 np1 => ?_⟩
        rw [cutV_drop, strR_drop]
        have t1 := (Stp.refl s6.g).new (o := .lst (strR ((p.ranks.map (nmP p)).drop (i + 1)))) np1
        have a1 : AtD d (upd H7 p1 (.lst (strR ((p.ranks.map (nmP p)).drop (i + 1))))) p1 (.lst (strR ((p.ranks.map (nmP p)).drop (i + 1)))) := .new s6.g np1
        generalize upd H7 p1 (.lst (strR ((p.ranks.map (nmP p)).drop (i + 1)))) = H8 at *
        have hpl8 := hpl.mono (s46.trans t1)
        have hna8 := hna.mono (s46.trans t1)
        have hrq8 := hrq6.mono t1
        have hfw8 := hfw6.mono t1
        refine ⟨_, rfl, pl, _, 2, .ref na, rfl, rfl, SqT.of hpl8.at_, atI_nat (j := 2) rfl, na, rfl, ⟨_, SqT.of hna8.at_⟩, fun D nD => ?_⟩
        refine lc_filt (n := 11) (xs := strR p.names) (fun x => !inV x (strR ((p.ranks.map (nmP p)).take (i + 1)))) walk_tup nD (fun H' s => SqT.of (s _ _ hna8.at_)) (by simp [strR]; omega) (fun j x H' hx s k' hk => ?_) (fun x => ⟨rfl, rfl, rfl⟩) (fun H' s hD => ?_)
        · obtain ⟨z, hz, rfl⟩ := List.mem_map.mp (List.mem_of_getElem? hx)
          walk_at "rd"
          refine ⟨_, SqL.of (s _ _ hrq8.at_), fun q nq => ?_⟩
          rw [cut_take, strR_take]
          exact ⟨q, _, rfl, .inl (SqL.of upd_same), rfl, flat_strs _, _, rfl, hk _ (same_new nq)⟩
        · have e9 : (strR p.names).filter (fun x => !inV x (strR ((p.ranks.map (nmP p)).take (i + 1)))) = strR (p.names.filter fun n => decide (n ∉ (p.ranks.map (nmP p)).take (i + 1))) := strR_filter _ fun z _ => by
            unfold strR
            rw [inV_strs]
            simp
          rw [e9] at hD
          have f1 : ∀ x ∈ strR ((p.ranks.map (nmP p)).drop (i + 1)), FlatV x := flat_S fun z hz => name_ascii (hnm z (List.mem_of_mem_drop hz))
          have f2 : ∀ x ∈ strR (p.names.filter fun n => decide (n ∉ (p.ranks.map (nmP p)).take (i + 1))), FlatV x := flat_S fun z hz => name_ascii (hnn z (List.mem_filter.mp hz).1)
          have s9 := t1.trans (Stp.same s t1.g)
          have hfw9 := hfw6.mono s9
          refine ⟨.list _, .list _, .lst (SqL.of (s _ _ a1.at_)) (dp_all f1), .lst (SqL.of hD) (dp_all f2), shaped_flat f1, shaped_flat f2, _, rfl, ?_⟩
          rw [strs_eqv]
          have hr' : (List.range' 1 (i + 1)).filter (fun z => decide (sizeOk p z)) = (List.range' 1 i).filter (fun z => decide (sizeOk p z)) ++ if sizeOk p (i + 1) then [i + 1] else [] := by
            rw [List.range'_concat, List.filter_append]
            congr 1
            rw [show 1 + 1 * i = i + 1 by omega, List.filter_cons, List.filter_nil]
            by_cases hs : sizeOk p (i + 1)
            · rw [if_pos hs, if_pos (decide_eq_true hs)]
            · rw [if_neg hs, if_neg (fun z => hs (of_decide_eq_true z))]
          by_cases hs : sizeOk p (i + 1)
          · have hb : decide ((p.ranks.map (nmP p)).drop (i + 1) = p.names.filter fun n => decide (n ∉ (p.ranks.map (nmP p)).take (i + 1))) = true := decide_eq_true hs
            rw [if_pos hb]
            rw [if_pos hs] at hr'
            have hfl : ((List.range' 1 i).filter (fun z => decide (sizeOk p z))).length ≤ i := Nat.le_trans (List.length_filter_le _ _) (Nat.le_of_eq List.length_range')
            refine ⟨tyV_lst hfw9.at_, _, hfw9.at_, line_lt (by rw [List.length_map]; omega), (s6.trans s9).mut nfw hfw9.ne, ?_, ?_⟩
            · rw [hr', List.map_append]
              exact hfw9.set
            · exact (hrq6.mono s9).upd nrf
          · have hb : ¬ decide ((p.ranks.map (nmP p)).drop (i + 1) = p.names.filter fun n => decide (n ∉ (p.ranks.map (nmP p)).take (i + 1))) = true := fun z => hs (of_decide_eq_true z)
            rw [if_neg hb]
            rw [if_neg hs, List.append_nil] at hr'
            rw [hr']
            exact ⟨s6.trans s9, hfw9, hrq6.mono s9⟩
      · rintro σ H6 ⟨fs, v10, e1, s6, hfw6, hrq6, rfl⟩
        refine hJ _ _ ⟨fs, v10, ?_, ?_, fun z hz => ?_, s6, hfw6, hrq6, rfl⟩
        · intro e
          have : p.ranks.length ∈ fs := by
            rw [e1]
            refine List.mem_filter.mpr ⟨List.mem_range'_1.mpr ⟨?_, by omega⟩, decide_eq_true (size_all hO)⟩
            have := hO.n1
            omega
          rw [e] at this
          cases this
        · rw [e1]
          have := List.length_filter_le (fun z => decide (sizeOk p z)) (List.range' 1 p.ranks.length)
          rw [List.length_range'] at this
          omega
        · rw [e1] at hz
          obtain ⟨h1, h2⟩ := List.mem_filter.mp hz
          rw [List.mem_range'_1] at h1
          exact ⟨by omega, by omega, of_decide_eq_true h2⟩
    rintro _ H5 ⟨fs, v10, f1, f2, f3, s5, hfw5, hrq5, rfl⟩
    have s05 := s3.trans s5
    have hot5 := hot.mono s5
    have hst5 := hst.mono s5
    have hos : ∀ r ∈ p.paused.map (fun t => ARow.pause t t) ++ ys.map (fun r => ARow.pause r.1 r.2), r.isStart = false ∧ r.ok ∧ r.good p.len p.names := fun r hr => by
      rcases List.mem_append.mp hr with hr | hr
      · obtain ⟨t, ht, rfl⟩ := List.mem_map.mp hr
        exact ⟨rfl, ⟨hql t ht, hql t ht⟩, ⟨Nat.le_refl _, hO.qk t ht⟩⟩
      · obtain ⟨y, hy, rfl⟩ := List.mem_map.mp hr
        obtain ⟨b1, b2⟩ := (runsA_in p.paused _ rfl hO.ql).2 y (hys y hy)
        have := hql y.2 b2
        exact ⟨rfl, ⟨by omega, by omega⟩, ⟨b1, hO.qk y.2 b2⟩⟩
    have hor : (p.paused.map (fun t => ARow.pause t t) ++ ys.map (fun r => ARow.pause r.1 r.2)).filter ARow.isRank = [] := by
      rw [List.filter_append, filter_map_const false (fun _ => rfl), filter_map_const (f := fun r : Nat × Nat => ARow.pause r.1 r.2) false (fun _ => rfl)]
      rfl
    have hop : ∀ t, t < p.len → (PausedBy (p.paused.map (fun t => ARow.pause t t) ++ ys.map (fun r => ARow.pause r.1 r.2)) t ↔ t ∈ p.paused) := fun t _ => by
      constructor
      · rintro ⟨a, b, hm, h1, h2⟩
        rcases List.mem_append.mp hm with hm | hm
        · obtain ⟨u, hu, e⟩ := List.mem_map.mp hm
          have e1 := (ARow.pause.inj e).1
          have e2 := (ARow.pause.inj e).2
          rw [show t = u by omega]
          exact hu
        · obtain ⟨y, hy, e⟩ := List.mem_map.mp hm
          cases e
          exact ((runsA_in p.paused _ rfl hO.ql).1 t).mp ⟨y, hys y hy, h1, h2⟩
      · intro ht
        exact ⟨t, t, List.mem_append_left _ (List.mem_map_of_mem ht), Nat.le_refl _, Nat.le_refl _⟩
    refine seq_cut (fun σ H' => ∃ (os : List ARow), os.length ≤ 135 ∧ (∀ r ∈ os, r.isStart = false ∧ r.ok ∧ r.good p.len p.names) ∧ ((os.filter ARow.isRank = [] ∧ p.ranks = List.range p.names.length) ∨ ∃ s, sizeOk p s ∧ os.filter ARow.isRank = [.rank ((p.ranks.map (nmP p)).take s)]) ∧ (∀ t, t < p.len → (PausedBy os t ↔ t ∈ p.paused)) ∧
      Stp d H H' ∧ AtD d H' ot (.lst (strR (os.map lineA))) ∧ AtD d H' st (.lst (strR ((p.starts.map (startR p)).map lineA))) ∧ σ = sgO d pl ll (some (.ref st)) none (some (.ref ot)) none (some (.ref rq)) (some (.ref fw)) none v10 none none) (fun J hJ => ?_) ?_
    · refine ifs_cut (fun H7 => Stp d H5 H7) (fun A hA => ?_) (fun H7 s7 => ?_)
      · unfold sgO
        walk_at "rd"
        refine ⟨_, SqT.of (hpl.mono s05).at_, _, atI_nat (j := 3) rfl, _, rfl, rq, rfl, _, .inl (SqL.of hrq5.at_), _, rfl, RgOk.of_le (by decide) (by simp [strR]; omega) (by decide) (by omega), fun z nz => ?_⟩
        rw [show (strR (p.ranks.map (nmP p))).length = p.ranks.length by simp [strR], rgV0]
        have sz := (Stp.refl s5.g).new (o := .lst ((List.range p.ranks.length).map fun v => V.int (v : Nat))) nz
        have az : AtD d (upd H5 z (.lst ((List.range p.ranks.length).map fun v => V.int (v : Nat)))) z (.lst ((List.range p.ranks.length).map fun v => V.int (v : Nat))) := .new s5.g nz
        generalize upd H5 z (.lst ((List.range p.ranks.length).map fun v => V.int (v : Nat))) = H6 at *
        have s06 := s05.trans sz
        refine ⟨_, _, dp_ints (hra.mono s06).at_, dp_ints az.at_, ints_shaped _, ints_shaped _, _, rfl, ?_⟩
        rw [show PyData.eqv (.list (p.ranks.map fun v => PyData.int (v : Nat))) (.list ((List.range p.ranks.length).map fun v => PyData.int (v : Nat))) = decide (p.ranks = List.range p.ranks.length) from ints_eqv _ _]
        by_cases hrk : p.ranks = List.range p.ranks.length
        · rw [if_neg (by rw [decide_eq_true hrk]; decide)]
          refine blK 2 (by decide) (by decide) sz.g fun r H7 hr s7 => ⟨scal_ii.mpr True.intro, ?_⟩
          have s57 := sz.trans s7
          by_cases hr0 : V.int ((r : Nat) : Int) = V.int 0
          · rw [if_pos hr0]
            exact hA _ s57
          · rw [if_neg hr0]
            refine hJ _ _ ⟨_, by simp; omega, hos, .inl ⟨hor, by rw [← hrkl]; exact hrk⟩, hop, s05.trans s57, hot5.mono s57, hst5.mono s57, rfl⟩
        · rw [if_pos (by rw [decide_eq_false hrk]; decide)]
          exact hA _ sz
      · unfold sgO
        walk_at "rd"
        have hot7 := hot5.mono s7
        have hfw7 := hfw5.mono s7
        have hfl : 1 ≤ fs.length := List.length_pos_iff.mpr f1
        refine ⟨tyV_lst hot7.at_, _, .inl (SqL.of hfw7.at_), ?_⟩
        rw [List.length_map]
        refine blK fs.length hfl (by omega) s7.g fun a H8 ha s8 => ?_
        have s78 := s7.trans s8
        obtain ⟨g1, g2, g3⟩ := f3 fs[a] (List.getElem_mem ha)
        refine ⟨_, _, rfl, SqL.of (hfw7.mono s8).at_, .int (fs[a] : Nat), atI_nat (by rw [List.getElem?_map, List.getElem?_eq_getElem ha]; rfl), _, rfl, _, SqL.of (hrq5.mono s78).at_, fun e ne => ?_⟩
        rw [cut_take, strR_take]
        have se := (Stp.refl s8.g).new (o := .lst (strR ((p.ranks.map (nmP p)).take fs[a]))) ne
        have ae : AtD d (upd H8 e (.lst (strR ((p.ranks.map (nmP p)).take fs[a])))) e (.lst (strR ((p.ranks.map (nmP p)).take fs[a]))) := .new s8.g ne
        generalize upd H8 e (.lst (strR ((p.ranks.map (nmP p)).take fs[a]))) = H9 at *
        have s59 := s78.trans se
        have hot9 := hot5.mono s59
        have hwl : ∀ z ∈ (p.ranks.map (nmP p)).take fs[a], z.length ≤ 8 := fun z hz => (hnm z (List.mem_of_mem_take hz)).2.1
        have hsum := sum_le (b := 8) hwl
        have htl : ((p.ranks.map (nmP p)).take fs[a]).length ≤ 8 := by rw [List.length_take, List.length_map]; omega
        have hjl : (TL.joinL [32] ((p.ranks.map (nmP p)).take fs[a])).length ≤ 200 := by
          have := joinL_len [32] ((p.ranks.map (nmP p)).take fs[a])
          have h1 : ([32] : List Nat).length = 1 := rfl
          rw [h1] at this
          omega
        have hr6 : (rankK ++ [32]).length = 5 := rfl
        refine ⟨((p.ranks.map (nmP p)).take fs[a]).map S, .inl (SqL.of (by rw [List.map_map]; exact ae.at_)), ?_, ?_⟩
        · rw [List.map_map, List.length_map, show (List.map ((fun x => Str.length x) ∘ S) ((p.ranks.map (nmP p)).take fs[a])) = ((p.ranks.map (nmP p)).take fs[a]).map List.length from List.map_congr_left fun x _ => S_len .., str_blank, S_len]
          show _ + _ * 1 ≤ _
          omega
        rw [str_blank, join_S, str_rankB, str_semi, SX.S_cat, SX.S_cat, S_len, S_len, S_len, S_len]
        refine ⟨line_of (by omega), line_of (by rw [List.length_append, List.length_singleton]; omega), _, hot9.at_, line_lt (by simp [strR]; omega), ?_⟩
        refine hJ _ _ ⟨(p.paused.map (fun t => ARow.pause t t) ++ ys.map fun r => ARow.pause r.1 r.2) ++ [.rank ((p.ranks.map (nmP p)).take fs[a])], by simp; omega, fun r hr => ?_, .inr ⟨fs[a], g3, ?_⟩, fun t ht => ?_, (s05.trans s59).mut no hot9.ne, ?_, (hst5.mono s59).upd nst, rfl⟩
        · rcases List.mem_append.mp hr with hr | hr
          · exact hos r hr
          · obtain rfl := List.mem_singleton.mp hr
            obtain ⟨k1, k2, _⟩ := names_ok hO
            refine ⟨rfl, ⟨fun e => ?_, fun x hx => hnm x (List.mem_of_mem_take hx)⟩, ⟨k1.sublist (List.take_sublist _ _), fun x hx => k2 x (List.mem_of_mem_take hx)⟩⟩
            have := congrArg List.length e
            rw [List.length_take, List.length_map, List.length_nil] at this
            omega
        · rw [List.filter_append, hor]
          rfl
        · rw [← hop t ht]
          constructor
          · rintro ⟨a, b, hm, hh⟩
            rcases List.mem_append.mp hm with hm | hm
            · exact ⟨a, b, hm, hh⟩
            · cases List.mem_singleton.mp hm
          · rintro ⟨a, b, hm, hh⟩
            exact ⟨a, b, List.mem_append_left _ hm, hh⟩
        · have e : lineA (.rank ((p.ranks.map (nmP p)).take fs[a])) = rankK ++ [32] ++ TL.joinL [32] ((p.ranks.map (nmP p)).take fs[a]) ++ [59] := by
            cases hq : (p.ranks.map (nmP p)).take fs[a] with
            | nil =>
              have := congrArg List.length hq
              rw [List.length_take, List.length_map, List.length_nil] at this
              omega
            | cons x r =>
              show (rankK ++ ([32] ++ TL.joinL [32] (x :: r))) ++ [59] = _
              simp
          have eL : ∀ A : List ARow, strR ((A ++ [ARow.rank ((p.ranks.map (nmP p)).take fs[a])]).map lineA) = strR (A.map lineA) ++ [V.str (S (rankK ++ [32] ++ TL.joinL [32] ((p.ranks.map (nmP p)).take fs[a]) ++ [59]))] := fun A => by
            rw [List.map_append, ← strR_app', ← e]
            rfl
          rw [eL]
          exact hot9.set
    rintro _ H6 ⟨os, o1, o2, o3, o4, s6, hot6, hst6, rfl⟩
    have hos3 := hO.sl
    refine seq_cut (fun σ H' => ∃ (q : Addr) (zs : List (Option ARow)), zs.Perm (os.map some ++ List.replicate p.starts.length none) ∧ Stp d H H' ∧ H q = none ∧ st ≠ q ∧ AtD d H' q (.lst (zs.map cellV)) ∧ AtD d H' st (.lst (strR ((p.starts.map (startR p)).map lineA))) ∧ σ = sgO d pl ll (some (.ref st)) none (some (.ref ot)) none (some (.ref rq)) (some (.ref fw)) none v10 none (some (.ref q))) (fun J hJ => ?_) ?_
    · unfold sgO
      walk_at "rd"
      have hsl : (strR ((p.starts.map (startR p)).map lineA)).length = p.starts.length := by simp [strR]
      refine ⟨by decide, fun a na' => ?_⟩
      have t1 := (Stp.refl s6.g).new (o := .lst [V.str ""]) na'
      have a1 : AtD d (upd H6 a (.lst [V.str ""])) a (.lst [V.str ""]) := .new s6.g na'
      generalize upd H6 a (.lst [V.str ""]) = H7 at *
      refine ⟨_, .inl (SqL.of (hst6.mono t1).at_), _, a1.at_, by omega, by omega, by rw [hsl, Int.toNat_natCast]; exact line_of (by simp; omega), fun b nb => ?_⟩
      rw [hsl, Int.toNat_natCast]
      have er : (List.replicate p.starts.length [V.str ""]).flatten = (List.replicate p.starts.length (none : Option ARow)).map cellV := by
        rw [List.map_replicate]
        show _ = List.replicate p.starts.length (V.str (S []))
        rw [← str_empty]
        generalize p.starts.length = n
        induction n with
        | zero => rfl
        | succ n ih => rw [List.replicate_succ, List.flatten_cons, ih, List.replicate_succ]; rfl
      rw [er]
      have t2 := t1.new (o := .lst ((List.replicate p.starts.length (none : Option ARow)).map cellV)) nb
      have a2 : AtD d (upd H7 b (.lst ((List.replicate p.starts.length (none : Option ARow)).map cellV))) b (.lst ((List.replicate p.starts.length (none : Option ARow)).map cellV)) := .new t1.g nb
      generalize upd H7 b (.lst ((List.replicate p.starts.length (none : Option ARow)).map cellV)) = H8 at *
      refine ⟨_, (hot6.mono t2).at_, _, a2.at_, line_of (by simp [strR]; omega), fun c nc => ?_⟩
      rw [← cells_some, ← List.map_append]
      have t3 := t2.new (o := .lst ((os.map some ++ List.replicate p.starts.length none).map cellV)) nc
      have a3 : AtD d (upd H8 c (.lst ((os.map some ++ List.replicate p.starts.length none).map cellV))) c (.lst ((os.map some ++ List.replicate p.starts.length none).map cellV)) := .new t2.g nc
      generalize upd H8 c (.lst ((os.map some ++ List.replicate p.starts.length none).map cellV)) = H9 at *
      refine ⟨d, c, _, rfl, t3.g, .inl (SqL.of a3.at_), fun x hx => ?_, by simp; omega, fun zs q H10 hperm nq k10 hq gq => ?_⟩
      · obtain ⟨z, hz, rfl⟩ := List.mem_map.mp hx
        cases z with
        | none => exact .inr ⟨_, rfl, by decide +kernel⟩
        | some r =>
          refine .inr ⟨_, rfl, strOk_S fun c hc => ?_⟩
          rcases List.mem_append.mp hz with hz | hz
          · obtain ⟨r', hr', e⟩ := List.mem_map.mp hz
            obtain rfl := Option.some.inj e
            exact line_ascii (o2 _ hr').2.1 c hc
          · cases List.eq_of_mem_replicate hz
      · obtain ⟨ws, rfl, hw⟩ := perm_map_inv hperm _ rfl
        have t4 : Stp d H9 H10 := ⟨k10, gq⟩
        have hq10 : AtD d H10 q (.lst (ws.map cellV)) := ⟨goodd_ne t3.g nq, hq⟩
        exact hJ _ _ ⟨q, ws, hw, s6.trans (t3.trans t4), (s6.trans t3).free nq, ne_of_none (hst6.mono t3).at_ nq, hq10, hst6.mono (t3.trans t4), rfl⟩
    rintro _ H7 ⟨q, zs, z1, s7, nq, nsq, hq7, hst7, rfl⟩
    refine seq_cut (fun σ H' => ∃ (zs : List (Option ARow)) (v4 : Option V), Fl p os p.starts.length zs ∧ zs.length ≤ 150 ∧ Stp d H H' ∧ AtD d H' q (.lst (zs.map cellV)) ∧ σ = sgO d pl ll (some (.ref st)) v4 (some (.ref ot)) none (some (.ref rq)) (some (.ref fw)) none v10 none (some (.ref q))) (fun J hJ => ?_) ?_
    · unfold sgO
      walk_at "rd"
      refine ⟨_, rfl, st, rfl, ⟨_, SqL.of hst7.at_⟩, ?_⟩
      have hz0 : zs.length ≤ 150 := by
        rw [z1.length_eq]
        simp
        omega
      refine for_it (walk_list (xs := strR ((p.starts.map (startR p)).map lineA))) (fun i σ H' => ∃ (zs : List (Option ARow)) (v4 : Option V), Fl p os i zs ∧ zs.length ≤ 150 ∧ Stp d H H' ∧ AtD d H' q (.lst (zs.map cellV)) ∧ AtD d H' st (.lst (strR ((p.starts.map (startR p)).map lineA))) ∧ σ = sgO d pl ll (some (.ref st)) v4 (some (.ref ot)) none (some (.ref rq)) (some (.ref fw)) none v10 none (some (.ref q)))
        ⟨zs, none, fl_start z1 fun r hr => (o2 r hr).1, hz0, s7, hq7, hst7, rfl⟩ (fun i σ H' _ h => ?_) ?_ ?_
      · obtain ⟨_, _, _, _, _, _, h, _⟩ := h
        exact SqL.of h.at_
      · rintro i x σ H8 H9 hi ⟨zs, v4, fl, hzl, s8, hq8, hst8, rfl⟩ ⟨rfl, hx⟩
        have hi : i < p.starts.length := by simpa [strR] using hi
        obtain rfl : V.str (S (lineA (startR p p.starts[i]))) = x := by
          unfold strR at hx
          rw [List.getElem?_map, List.getElem?_map, List.getElem?_map, List.getElem?_eq_getElem hi] at hx
          exact Option.some.inj hx
        obtain ⟨j, hj, g1, g2, fl2⟩ := fl_step hO hi fl
        unfold sgO
        walk_at "rd"
        refine ⟨tyV_lst hq8.at_, q, zs.map cellV, .str "", j, cellV none, rfl, rfl, SqL.of hq8.at_, rfl, ?_, by rw [List.getElem?_map, g1]; rfl, ?_, fun m z hm hz => ?_, _, _, rfl, hq8.at_, j, Evl.ixN_nat (by rw [List.length_map]; exact hj), zs.set j (some (startR p p.starts[i])), fl2, by rw [List.length_set]; exact hzl, s8.mut nq hq8.ne, ?_, hst8.upd nsq⟩
        · rw [List.all_eq_true]
          intro v hv
          obtain ⟨z, _, rfl⟩ := List.mem_map.mp hv
          cases z <;> rfl
        · show (S [] == "") = true
          rw [str_empty]
          exact beq_self_eq_true _
        · rw [List.getElem?_map] at hz
          obtain ⟨c, hc, rfl⟩ := Option.map_eq_some_iff.mp hz
          cases c with
          | none => exact absurd rfl (g2 m none hm hc)
          | some r =>
            show (S (lineA r) == "") = false
            rw [str_empty, beq_eq_false_iff_ne]
            exact fun e => lineA_ne r (S_inj e)
        · rw [List.map_set]
          exact hq8.set
      · rintro σ H8 ⟨zs, v4, fl, hzl, s8, hq8, hst8, rfl⟩
        have e : (strR ((p.starts.map (startR p)).map lineA)).length = p.starts.length := by simp [strR]
        rw [e] at fl
        exact hJ _ _ ⟨zs, v4, fl, hzl, s8, hq8, rfl⟩
    rintro _ H8 ⟨zs, v4, z1, z2, s8, hq8, rfl⟩
    unfold sgO
    walk_at "rd"
    obtain ⟨rs, rfl, r1, r2⟩ := fl_end z1
    rw [cells_some] at hq8
    rw [List.length_map] at z2
    exact k q rs _ s8 nq hq8 (rows_of_perm hO r2 r1 o2 o3 o4) z2
end

end Wv
end WvRV_
section WvTW_
set_option Elab.async false
set_option linter.all false
set_option maxRecDepth 100000
set_option maxHeartbeats 4000000
namespace Wv
open PySem L2
open SX (S S_len S_inj)
local macro_rules | `(tactic| walk_at "rd") => `(tactic| (try simp only [tVar, tC, tB, tAnd, tOr, tNot, tAndV, tOrV, tNotV, tIf, tNext, tSeq, tBreak, tCont, tDrop, tRet, tRetN, tIfS, gName, gNil, gCons, gTup, gSub, tAsg, tPar, tAug, tOp, tUn, rI, rI0, rU, rEq, rNe, tTest, tFld, tNil, tCons, tTup, tLst, tCB, tNoPart, tPart, tSl, rIxL, rIxT, rIxS, rSlL, rSlS, tBM0, tBM, rAppend, rExtend, rCat, rRep, rSetL, tM0, tM1, tCall, tMeth, tMake, sFld, sFldAug, rAdd, rSub, ipI, tBM0,
  scal_ss, scal_ii, scal_bb, scal_ns, scal_sn, scal_nn, tyV_str, L2.start, List.map_cons, List.map_nil, List.length_cons, List.length_nil, List.replicate, List.cons_append, List.nil_append, List.append_nil, List.getElem?_cons_zero, List.getElem?_cons_succ, List.set_cons_zero, List.set_cons_succ, Nat.reduceAdd, Nat.reduceSub, Nat.zero_add, Nat.sub_self, Nat.add_one_sub_one,
  Option.some.injEq, exists_eq_left, exists_eq_left', exists_eq', exists_eq, V.int.injEq, V.str.injEq, V.ref.injEq, V.bl.injEq, reduceCtorEq, List.cons.injEq, and_true, true_and, exists_and_left, exists_and_right, and_assoc, decide_true, decide_false, if_true, if_false, ite_true, ite_false, Bool.false_eq_true, Bool.true_eq_false, eq_self_iff_true, cx_K, nox_K, tMkSyn, tMkChk, tYes, bne, ne_eq, not_false_eq_true, not_true_eq_false, Bool.not_true, Bool.not_false, decide_eq_true_eq, Bool.not_eq_true', decide_eq_false_iff_not]))
/-! ### the words of rows, ';' set off on both sides -/
open PySem.StrLaws
def semi3 (l : List Nat) : List Nat := l.flatMap fun k => if k = 59 then [32, 59, 32] else [k]
theorem semi3_eq (l : List Nat) : Txt.replace (S l) (S [59]) (S [32, 59, 32]) = S (semi3 l) := by
  have h := replace_sep (S l) (S [32, 59, 32]) 59
  refine (SX.S_tl _).symm.trans ?_
  rw [show S [59] = (⟨#[59]⟩ : Str) from rfl, h]
  congr 1
theorem row3 {r : List (List Nat)} (ws : List (List Nat)) (h : RowOk r) : (semi3 (TL.joinL [32] r ++ [59])).foldl TL.wstep (ws, []) = (ws ++ r ++ [[59]], []) := by
  obtain ⟨h0, h⟩ := h
  have e : semi3 (TL.joinL [32] r ++ [59]) = (TL.joinL [32] r ++ [32]) ++ [59, 32] := by
    unfold semi3
    rw [List.flatMap_append, flat_id (join_no (by decide) fun p hp m => (plain_ns ((h p hp).2 59 m)).2.1 rfl)]
    simp
  rw [e, List.foldl_append, fold_row r ws h0 fun p hp => ⟨(h p hp).1, fun c hc => (plain_ns ((h p hp).2 c hc)).1⟩]
  have hs : PySem.Unicode.isSpace 59 = false := by decide +kernel
  have hs2 : PySem.Unicode.isSpace 32 = true := by decide +kernel
  have a : TL.wstep (ws ++ r, []) 59 = (ws ++ r, [] ++ [59]) := if_neg (by rw [hs]; exact Bool.false_ne_true)
  have b : TL.wstep (ws ++ r, [59]) 32 = (ws ++ r ++ [[59]], []) := (if_pos hs2 : TL.wstep (ws ++ r, [59]) 32 = (if [59] = [] then (ws ++ r, [59]) else (ws ++ r ++ [[59]], []))).trans (if_neg (show ¬ ([59] : List Nat) = [] by decide))
  show TL.wstep (TL.wstep (ws ++ r, []) 59) 32 = _
  rw [a]
  exact b
theorem words3 : ∀ (rows : List (List (List Nat))) (ws : List (List Nat)), (∀ r ∈ rows, RowOk r) → (semi3 (TL.joinL [10] (rows.map fun r => TL.joinL [32] r ++ [59]))).foldl TL.wstep (ws, []) = (ws ++ wordsP rows, [])
  | [], ws, _ => by
    show (ws, []) = (ws ++ [], [])
    rw [List.append_nil]
  | [r], ws, h => by
    show (semi3 (TL.joinL [32] r ++ [59])).foldl TL.wstep (ws, []) = _
    rw [row3 ws (h r (List.mem_singleton.mpr rfl))]
    show (ws ++ r ++ [[59]], []) = (ws ++ ((r ++ [[59]]) ++ []), [])
    rw [List.append_nil, List.append_assoc]
  | r :: q :: rest, ws, h => by
    show (semi3 ((TL.joinL [32] r ++ [59]) ++ ([10] ++ TL.joinL [10] ((q :: rest).map fun r => TL.joinL [32] r ++ [59])))).foldl TL.wstep (ws, []) = _
    rw [show ∀ a b : List Nat, semi3 (a ++ ([10] ++ b)) = semi3 a ++ ([10] ++ semi3 b) from fun a b => by unfold semi3; rw [List.flatMap_append, List.flatMap_append]; rfl]
    rw [List.foldl_append, row3 ws (h r (List.mem_cons_self ..)), List.foldl_append]
    have hs : PySem.Unicode.isSpace 10 = true := by decide +kernel
    have a : TL.wstep (ws ++ r ++ [[59]], []) 10 = (ws ++ r ++ [[59]], []) := (if_pos hs : TL.wstep (ws ++ r ++ [[59]], []) 10 = (if ([] : List Nat) = [] then (ws ++ r ++ [[59]], []) else (ws ++ r ++ [[59]] ++ [[]], []))).trans (if_pos rfl)
    rw [show [10].foldl TL.wstep (ws ++ r ++ [[59]], []) = (ws ++ r ++ [[59]], []) from a, words3 (q :: rest) _ fun z hz => h z (List.mem_cons_of_mem _ hz)]
    show (ws ++ r ++ [[59]] ++ wordsP (q :: rest), ([] : List Nat)) = (ws ++ ((r ++ [[59]]) ++ wordsP (q :: rest)), [])
    simp only [List.append_assoc]
theorem text_words3 (rows : List (List (List Nat))) (h : ∀ r ∈ rows, RowOk r) : Txt.words (Txt.replace (S (TL.joinL [10] (rows.map fun r => TL.joinL [32] r ++ [59]))) (S [59]) (S [32, 59, 32])) = (wordsP rows).map S := by
  rw [semi3_eq]
  refine TL.map_tl_inj ?_
  rw [SX.map_S_tl, TL.words_tl]
  have e : (S (semi3 (TL.joinL [10] (rows.map fun r => TL.joinL [32] r ++ [59])))).cps.toList = semi3 (TL.joinL [10] (rows.map fun r => TL.joinL [32] r ++ [59])) := rfl
  have := words3 rows [] h
  rw [List.nil_append] at this
  show TL.wfin ((semi3 (TL.joinL [10] (rows.map fun r => TL.joinL [32] r ++ [59]))).foldl TL.wstep ([], [])) = _
  rw [this]
  rfl
theorem okW_plain {w : List Nat} (h : OkW w) (h2 : w ≠ [59]) : w ≠ [] ∧ ∀ c ∈ w, plainC c := by
  refine ⟨(okW_ne h).1, fun c hc => ?_⟩
  rcases h with rfl | ⟨_, _, h⟩ | ⟨_, h⟩
  · exact absurd rfl h2
  · exact .inl (h c hc)
  · exact .inr (h c hc)
theorem arow_ok {r : ARow} (h : r.ok) : RowOk r.w := by
  have hw := row_okW h
  have hs : ∀ w ∈ r.w, w ≠ [59] := fun w hw' e => by
    subst e
    have : ∀ k ∈ keywords, k ≠ [59] := by decide
    have nn : ∀ n, NameW n → n ≠ [59] := fun n hn e => by
      subst e
      exact absurd (hn.2.2.1 59 (List.mem_cons_self ..)) (by decide)
    have nu : ∀ n, n ≤ 99 → numS n ≠ [59] := fun n hn e => by
      have := (numS_ok hn).2.1
      rw [e] at this
      exact absurd (this 59 (List.mem_cons_self ..)) (by decide)
    rcases List.mem_cons.mp hw' with e | hw'
    · exact this r.key (key_in r) e.symm
    · cases r with
      | round n => exact nu n h (List.mem_singleton.mp hw').symm
      | opn n => exact nu n h (List.mem_singleton.mp hw').symm
      | valves ns => exact nn _ (h.2 _ hw') rfl
      | rank ns => exact nn _ (h.2 _ hw') rfl
      | start nm t v =>
        have hw' : [59] ∈ [nm, numS t, forK, numS v] := hw'
        simp only [List.mem_cons, List.not_mem_nil, or_false] at hw'
        rcases hw' with e | e | e | e
        · exact nn _ h.1 e.symm
        · exact nu _ h.2.1 e.symm
        · exact absurd e (by decide)
        · exact nu _ h.2.2 e.symm
      | pause a b =>
        have hw' : [59] ∈ [numS a, numS b] := hw'
        simp only [List.mem_cons, List.not_mem_nil, or_false] at hw'
        rcases hw' with e | e
        · exact nu _ h.1 e.symm
        · exact nu _ h.2 e.symm
  exact ⟨List.cons_ne_nil _ _, fun w hw' => okW_plain (hw w (List.mem_append_left _ hw')) (hs w hw')⟩
theorem rows_words3 {rs : List ARow} (h : ∀ r ∈ rs, r.ok) : Txt.words (Txt.replace (S (TL.joinL [10] (rs.map lineA))) ";" " ; ") = (rowsT rs).map S := by
  have e2 : (" ; " : Str) = S [32, 59, 32] := by decide +kernel
  have := text_words3 (rs.map ARow.w) fun r hr => by
    obtain ⟨a, ha, rfl⟩ := List.mem_map.mp hr
    exact arow_ok (h a ha)
  rw [List.map_map] at this
  rw [str_semi, e2]
  refine this.trans ?_
  congr 1
  unfold wordsP rowsT
  rw [List.flatMap_map]
/-! #### lines of a text -/
theorem split_lines {ls : List (List Nat)} (h0 : ls ≠ []) (h : ∀ l ∈ ls, 10 ∉ l) : rowsOf (TL.joinL [10] ls) = ls := SX.spl_join (c := 10) (sep := []) (parts := ls) h0 h

end Wv
end WvTW_
section WvEQ_
set_option Elab.async false
set_option linter.all false
set_option maxRecDepth 100000
set_option maxHeartbeats 4000000
namespace Wv
open PySem L2
open SX (S S_len S_inj)
local macro_rules | `(tactic| walk_at "rd") => `(tactic| (try simp only [tVar, tC, tB, tAnd, tOr, tNot, tAndV, tOrV, tNotV, tIf, tNext, tSeq, tBreak, tCont, tDrop, tRet, tRetN, tIfS, gName, gNil, gCons, gTup, gSub, tAsg, tPar, tAug, tOp, tUn, rI, rI0, rU, rEq, rNe, tTest, tFld, tNil, tCons, tTup, tLst, tCB, tNoPart, tPart, tSl, rIxL, rIxT, rIxS, rSlL, rSlS, tBM0, tBM, rAppend, rExtend, rCat, rRep, rSetL, tM0, tM1, tCall, tMeth, tMake, sFld, sFldAug, rAdd, rSub, ipI, tBM0,
  scal_ss, scal_ii, scal_bb, scal_ns, scal_sn, scal_nn, tyV_str, L2.start, List.map_cons, List.map_nil, List.length_cons, List.length_nil, List.replicate, List.cons_append, List.nil_append, List.append_nil, List.getElem?_cons_zero, List.getElem?_cons_succ, List.set_cons_zero, List.set_cons_succ, Nat.reduceAdd, Nat.reduceSub, Nat.zero_add, Nat.sub_self, Nat.add_one_sub_one,
  Option.some.injEq, exists_eq_left, exists_eq_left', exists_eq', exists_eq, V.int.injEq, V.str.injEq, V.ref.injEq, V.bl.injEq, reduceCtorEq, List.cons.injEq, and_true, true_and, exists_and_left, exists_and_right, and_assoc, decide_true, decide_false, if_true, if_false, ite_true, ite_false, Bool.false_eq_true, Bool.true_eq_false, eq_self_iff_true, cx_K, nox_K, tMkSyn, tMkChk, tYes, bne, ne_eq, not_false_eq_true, not_true_eq_false, Bool.not_true, Bool.not_false, decide_eq_true_eq, Bool.not_eq_true', decide_eq_false_iff_not]))
/-! ### `_law_equal` -/
open LamX
def Scal : V → Prop
  | .non => True
  | .bl _ => True
  | .int _ => True
  | .str _ => True
  | _ => False
/-- equal, and of one kind at every level, at most n levels deep -/
def SameK (H : Hp) : Nat → V → V → Prop
  | 0, x, y => x = y ∧ Scal x
  | n + 1, x, y => (x = y ∧ Scal x) ∨ ∃ (a b : Addr) (xs ys : List V), x = .ref a ∧ y = .ref b ∧ ((H a = some (.lst xs) ∧ H b = some (.lst ys)) ∨ (H a = some (.tup xs) ∧ H b = some (.tup ys))) ∧ xs.length = ys.length ∧ xs.length ≤ 1000 ∧
    ∀ (i : Nat) (u v : V), xs[i]? = some u → ys[i]? = some v → SameK H n u v
theorem SameK.mono {H H' : Hp} (s : Same H H') : ∀ {n : Nat} {x y : V}, SameK H n x y → SameK H' n x y
  | 0, _, _, h => h
  | n + 1, _, _, h => by
    rcases h with h | ⟨a, b, xs, ys, e1, e2, h, hl, hz, hk⟩
    · exact .inl h
    · refine .inr ⟨a, b, xs, ys, e1, e2, ?_, hl, hz, fun i u v hu hv => (hk i u v hu hv).mono s⟩
      rcases h with ⟨h1, h2⟩ | ⟨h1, h2⟩
      · exact .inl ⟨s _ _ h1, s _ _ h2⟩
      · exact .inr ⟨s _ _ h1, s _ _ h2⟩
def spEq : Nat → Sp
  | 0 => fun _ _ _ _ => False
  | n + 1 => fun vs H Q _ => ∃ x y, vs = [x, y] ∧ SameK H n x y ∧ ∀ H', Same H H' → Q (.bl true) H'
theorem isi {K : PySem.W.Frag} {H : Hp} {x : V} {t c : String} {b : Bool} {Q : VK} (ty : TyX K H x (.type t)) (h : kitB t c = some b) (q : Q (.bl b) H) : rIsi K [x, .ty c] H Q := ⟨x, .ty c, _, _, b, rfl, .ty c, ty, kit_ty h, q⟩
section
variable {P : Program} {w : World} {K : PySem.W.Frag} {mg : Str → Option Value} {base : Heap}
theorem sc__law_equal : FnScope ["_law_actual", "_law_expected", "_law_k"] ["_law_actual", "_law_expected"] (defScope s__law_equal) := ⟨rfl, rfl, rfl, by decide +kernel, rfl, by decide +kernel, by decide +kernel⟩
theorem eq_base {f : Addr} {fd : FuncData} : FnOk P w K mg base CX0 0 f fd ["_law_actual", "_law_expected"] (spEq 0) := ⟨fun _ _ _ _ h => h.elim, fun _ _ _ _ _ _ _ _ _ _ _ _ _ h => h.elim⟩
theorem eq_step {n k : Nat} {f : Addr} {fd : FuncData} (F : Fun K "_law_equal" "_law_equal" s__law_equal f fd) (T : TopF w K mg) (hmg : mg "_law_equal" = some (.ref f)) (hkp : PySem.W.keepIn K (.ref f) = true) (hb : L2.Binds K fd ["_law_actual", "_law_expected"] [])
    (ih : FnOk P w K mg base CX0 k f fd ["_law_actual", "_law_expected"] (spEq n)) : FnOk P w K mg base CX0 (k + 1) f fd ["_law_actual", "_law_expected"] (spEq (n + 1)) := by
  refine F.ok sc__law_equal (fun vs H Q E h => ?_) (fun cdv A outer s H vs Q E hr h => ?_)
  · obtain ⟨x, y, rfl, _⟩ := h
    rfl
  · obtain ⟨x, y, rfl, hS, kq⟩ := h
    have D__law_equal : DF P w K mg base CX0 k "_law_equal" ["_law_actual", "_law_expected"] (spEq n) := ⟨f, fd, ih, hmg, hkp, hb⟩
    refine ⟨_, (pss_cons (ps_if (pt_cmpR op_isN (pv 1) pe_non (nomark _)) (pss_one (ps_ret (pe_cmpR op_isN (pv 0) pe_non (nomark _)))) pss_nil)
      (pss_cons (ps_if (pt_val (pe_callB call_isi (by rfl) T.z_isinstance (by decide +kernel) (pa_cons (pv 1) (pa_cons (pe_bltn (v := .ty "bool") (by rfl) T.z_bool (by decide +kernel) rfl) pa_nil)))) (pss_one (ps_ret (pe_and (pe_callB call_isi (by rfl) T.z_isinstance (by decide +kernel) (pa_cons (pv 0) (pa_cons (pe_bltn (v := .ty "bool") (by rfl) T.z_bool (by decide +kernel) rfl) pa_nil))) (pe_one (pe_cmpR op_eq (pv 0) (pv 1) (nomark _)))))) pss_nil)
      (pss_cons (ps_if (pt_val (pe_callB call_isi (by rfl) T.z_isinstance (by decide +kernel) (pa_cons (pv 1) (pa_cons (pe_bltn (v := .ty "int") (by rfl) T.z_int (by decide +kernel) rfl) pa_nil)))) (pss_one (ps_ret (pe_and (pe_callB call_isi (by rfl) T.z_isinstance (by decide +kernel) (pa_cons (pv 0) (pa_cons (pe_bltn (v := .ty "int") (by rfl) T.z_int (by decide +kernel) rfl) pa_nil))) (pe_and (pe_not (pe_callB call_isi (by rfl) T.z_isinstance (by decide +kernel) (pa_cons (pv 0) (pa_cons (pe_bltn (v := .ty "bool") (by rfl) T.z_bool (by decide +kernel) rfl) pa_nil)))) (pe_one (pe_cmpR op_eq (pv 0) (pv 1) (nomark _))))))) pss_nil)
      (pss_cons (ps_if (pt_val (pe_callB call_isi (by rfl) T.z_isinstance (by decide +kernel) (pa_cons (pv 1) (pa_cons (pe_bltn (v := .ty "str") (by rfl) T.z_str (by decide +kernel) rfl) pa_nil)))) (pss_one (ps_ret (pe_and (pe_callB call_isi (by rfl) T.z_isinstance (by decide +kernel) (pa_cons (pv 0) (pa_cons (pe_bltn (v := .ty "str") (by rfl) T.z_str (by decide +kernel) rfl) pa_nil))) (pe_one (pe_cmpR op_eq (pv 0) (pv 1) (nomark _)))))) pss_nil)
      (pss_cons (ps_if (pt_cmpR op_ne (pe_callB call_isi (by rfl) T.z_isinstance (by decide +kernel) (pa_cons (pv 1) (pa_cons (pe_bltn (v := .ty "tuple") (by rfl) T.z_tuple (by decide +kernel) rfl) pa_nil))) (pe_callB call_isi (by rfl) T.z_isinstance (by decide +kernel) (pa_cons (pv 0) (pa_cons (pe_bltn (v := .ty "tuple") (by rfl) T.z_tuple (by decide +kernel) rfl) pa_nil))) (nomark _)) (pss_one (ps_ret pe_bl)) pss_nil)
      (pss_cons (ps_if (pt_cmpR op_ne (pe_callB call_isi (by rfl) T.z_isinstance (by decide +kernel) (pa_cons (pv 1) (pa_cons (pe_bltn (v := .ty "list") (by rfl) T.z_list (by decide +kernel) rfl) pa_nil))) (pe_callB call_isi (by rfl) T.z_isinstance (by decide +kernel) (pa_cons (pv 0) (pa_cons (pe_bltn (v := .ty "list") (by rfl) T.z_list (by decide +kernel) rfl) pa_nil))) (nomark _)) (pss_one (ps_ret pe_bl)) pss_nil)
      (pss_cons (ps_if (pt_cmpR op_ne (pe_callB call_len_seq (by rfl) T.z_len (by decide +kernel) (pa_cons (pv 0) pa_nil)) (pe_callB call_len_seq (by rfl) T.z_len (by decide +kernel) (pa_cons (pv 1) pa_nil)) (nomark _)) (pss_one (ps_ret pe_bl)) pss_nil)
      (pss_one (ps_ret (pe_callB (cr_all rfl) (by rfl) T.z_all (by decide +kernel) (pa_cons (pe_lc (own := [("_law_k", 2)]) (g := gName 2) (tt := tYes) (te := (tCall (spEq n) [] E0 (tCons (tOp (rIx K) (tVar 0) (tVar 2)) (tCons (tOp (rIx K) (tVar 1) (tVar 2)) tNil)))) rfl sc__law_equal.nd (pi_range1 (by rfl) T.z_range (pa_cons (pe_callB call_len_seq (by rfl) T.z_len (by decide +kernel) (pa_cons (pv 1) pa_nil)) pa_nil)) (blkOk_by (N := ["_law_actual", "_law_expected", "_law_k"]) (sc := defScope s__law_equal) (by decide +kernel)) (fun _ _ _ _ _ => (pg_name (i := 2) sc__law_equal.nd rfl (Or.inl rfl))) (fun _ _ _ _ _ => pts_nil) (fun _ _ _ _ _ => (pe_call D__law_equal.G hr rfl D__law_equal.mg D__law_equal.kp D__law_equal.b .nil pass0 (pa_cons (pe_ix ix_seq (pv 0) (pv 2) (fun _ _ => rfl)) (pa_cons (pe_ix ix_seq (pv 1) (pv 2) (fun _ _ => rfl)) pa_nil))))) pa_nil))))))))))), ?_⟩
    walk_at "rd"
    have hS' : (x = y ∧ Scal x) ∨ (∃ m, n = m + 1 ∧ ∃ (a b : Addr) (xs ys : List V), x = .ref a ∧ y = .ref b ∧ ((H a = some (.lst xs) ∧ H b = some (.lst ys)) ∨ (H a = some (.tup xs) ∧ H b = some (.tup ys))) ∧ xs.length = ys.length ∧ xs.length ≤ 1000 ∧ ∀ (i : Nat) (u v : V), xs[i]? = some u → ys[i]? = some v → SameK H m u v) := by
      cases n with
      | zero => exact .inl hS
      | succ m =>
        rcases hS with h | h
        · exact .inl h
        · exact .inr ⟨m, rfl, h⟩
    have tb : kitB "bool" "bool" = some true := by decide +kernel
    have ib : kitB "int" "bool" = some false := by decide +kernel
    have ii : kitB "int" "int" = some true := by decide +kernel
    have sb : kitB "str" "bool" = some false := by decide +kernel
    have si : kitB "str" "int" = some false := by decide +kernel
    have ss : kitB "str" "str" = some true := by decide +kernel
    have lb : kitB "list" "bool" = some false := by decide +kernel
    have li : kitB "list" "int" = some false := by decide +kernel
    have ls : kitB "list" "str" = some false := by decide +kernel
    have lt : kitB "list" "tuple" = some false := by decide +kernel
    have ll : kitB "list" "list" = some true := by decide +kernel
    have ub : kitB "tuple" "bool" = some false := by decide +kernel
    have ui : kitB "tuple" "int" = some false := by decide +kernel
    have us : kitB "tuple" "str" = some false := by decide +kernel
    have ut : kitB "tuple" "tuple" = some true := by decide +kernel
    have ul : kitB "tuple" "list" = some false := by decide +kernel
    rcases hS' with ⟨rfl, hs⟩ | ⟨m, rfl, a, b, xs, ys, rfl, rfl, hab, hl, hz, hk⟩
    · cases x with
      | non => exact kq H (Same.refl H)
      | bl b =>
        rw [if_neg (by intro z; cases z)]
        refine isi (.base (.bl b)) tb ⟨true, rfl, ?_⟩
        rw [if_pos rfl]
        refine isi (.base (.bl b)) tb ⟨true, rfl, ?_⟩
        rw [if_pos rfl, decide_eq_true rfl]
        exact ⟨by simp [scal], kq H (Same.refl H)⟩
      | int i =>
        rw [if_neg (by intro z; cases z)]
        refine isi (.base (.int i)) ib ⟨false, rfl, ?_⟩
        rw [if_neg Bool.false_ne_true]
        refine isi (.base (.int i)) ii ⟨true, rfl, ?_⟩
        rw [if_pos rfl]
        refine isi (.base (.int i)) ii ⟨true, rfl, ?_⟩
        rw [if_pos rfl]
        refine isi (.base (.int i)) ib ⟨false, rfl, ?_⟩
        rw [if_pos rfl, decide_eq_true rfl]
        exact ⟨by simp [scal], kq H (Same.refl H)⟩
      | str z =>
        rw [if_neg (by intro z; cases z)]
        refine isi (.base (.str z)) sb ⟨false, rfl, ?_⟩
        rw [if_neg Bool.false_ne_true]
        refine isi (.base (.str z)) si ⟨false, rfl, ?_⟩
        rw [if_neg Bool.false_ne_true]
        refine isi (.base (.str z)) ss ⟨true, rfl, ?_⟩
        rw [if_pos rfl]
        refine isi (.base (.str z)) ss ⟨true, rfl, ?_⟩
        rw [if_pos rfl, decide_eq_true rfl]
        exact ⟨by simp [scal], kq H (Same.refl H)⟩
      | _ => exact hs.elim
    · rw [if_neg (by intro z; cases z)]
      have hat : (SqL K H a xs ∨ SqT K H a xs) ∧ (SqL K H b ys ∨ SqT K H b ys) := by
        rcases hab with ⟨h1, h2⟩ | ⟨h1, h2⟩
        · exact ⟨.inl (SqL.of h1), .inl (SqL.of h2)⟩
        · exact ⟨.inr (SqT.of h1), .inr (SqT.of h2)⟩
      have fin : ∀ Z : Prop, (Z → (∃ p, V.ref a = .ref p ∧ ∃ xs, (SqL K H p xs ∨ SqT K H p xs) ∧ ∃ p, V.ref b = .ref p ∧ ∃ ys, (SqL K H p ys ∨ SqT K H p ys) ∧ (if ¬ ((xs.length : Nat) : Int) = ((ys.length : Nat) : Int) then Q (.bl false) H else Z))) := fun Z z => ⟨a, rfl, xs, hat.1, b, rfl, ys, hat.2, by rw [if_neg (by rw [hl]; exact fun h => h rfl)]; exact z⟩
      have go : tLc (iRng1 (tCons (tCB (fun xs H Q => ∃ p, xs = [V.ref p] ∧ ∃ x, (SqL K H p x ∨ SqT K H p x) ∧ Q (V.int (x.length : Nat)) H) (tCons (tVar 1) tNil)) tNil)) (gName 2) tYes (tCall (spEq (m + 1)) [] E0 (tCons (tOp (rIx K) (tVar 0) (tVar 2)) (tCons (tOp (rIx K) (tVar 1) (tVar 2)) tNil))) [2] [some (.ref a), some (.ref b), none] H fun x H1 => rAll K [x] H1 Q := by
        refine ⟨_, rfl, b, rfl, ys, hat.2, ((ys.length : Nat) : Int), rfl, by omega, by omega, fun D nD => ?_⟩
        rw [Int.toNat_natCast]
        refine lc_it (walk_range (lo := 0) (n := ys.length)) (fun i H' => Same H H' ∧ H' D = some (.lst ((List.replicate i true).map V.bl))) ⟨same_new nD, upd_same⟩ (fun _ _ _ _ => True.intro) ?_ ?_
        · rintro i x H1 H2 hi ⟨s1, hD⟩ ⟨rfl, rfl⟩
          show gName 2 (V.int (0 + (i : Int))) [some (.ref a), some (.ref b), none] _ _
          rw [Int.zero_add]
          have hx : xs[i]? = some xs[i] := List.getElem?_eq_getElem (by omega)
          have hy : ys[i]? = some ys[i] := List.getElem?_eq_getElem hi
          have hv := (hk i _ _ hx hy).mono s1
          have fin2 : spEq (m + 1) [xs[i], ys[i]] H2 (fun y H4 => ∃ acc, H4 D = some (HO.lst acc) ∧ acc.length < sizeLine ∧ Same H (upd H4 D (HO.lst (acc ++ [y]))) ∧ upd H4 D (HO.lst (acc ++ [y])) D = some (.lst ((List.replicate (i + 1) true).map V.bl))) E0 := by
            refine ⟨_, _, rfl, hv, fun H4 s4 => ⟨_, s4 _ _ hD, line_lt (by simp; omega), same_mut (s1.trans s4) nD, ?_⟩⟩
            rw [upd_same, List.replicate_succ', List.map_append]
            rfl
          refine ⟨rfl, ?_⟩
          simp only [tYes, if_true, eq_self_iff_true]
          rcases hab with ⟨h1, h2⟩ | ⟨h1, h2⟩
          · exact ⟨_, rfl, _, rfl, .inl ⟨a, xs, i, _, rfl, rfl, SqL.of (s1 _ _ h1), atI_nat hx, _, rfl, _, rfl, .inl ⟨b, ys, i, _, rfl, rfl, SqL.of (s1 _ _ h2), atI_nat hy, fin2⟩⟩⟩
          · exact ⟨_, rfl, _, rfl, .inr (.inl ⟨a, xs, i, _, rfl, rfl, SqT.of (s1 _ _ h1), atI_nat hx, _, rfl, _, rfl, .inr (.inl ⟨b, ys, i, _, rfl, rfl, SqT.of (s1 _ _ h2), atI_nat hy, fin2⟩)⟩)⟩
        · rintro H1 ⟨s1, hD⟩
          refine ⟨D, List.replicate ys.length true, rfl, SqL.of hD, ?_⟩
          rw [show (List.replicate ys.length true).all id = true by rw [List.all_eq_true]; intro b hb; rw [List.eq_of_mem_replicate hb]; rfl]
          exact kq H1 s1
      rcases hab with ⟨h1, h2⟩ | ⟨h1, h2⟩
      · have ta := TyX.base (K := K) (.lst h1)
        have tb' := TyX.base (K := K) (.lst h2)
        refine isi tb' lb ⟨false, rfl, ?_⟩
        rw [if_neg Bool.false_ne_true]
        refine isi tb' li ⟨false, rfl, ?_⟩
        rw [if_neg Bool.false_ne_true]
        refine isi tb' ls ⟨false, rfl, ?_⟩
        rw [if_neg Bool.false_ne_true]
        refine isi tb' lt (isi ta lt ⟨by simp [scal], ?_⟩)
        rw [if_neg (fun h => h rfl)]
        refine isi tb' ll (isi ta ll ⟨by simp [scal], ?_⟩)
        rw [if_neg (fun h => h rfl)]
        exact fin _ go
      · have ta := TyX.base (K := K) (.tup h1)
        have tb' := TyX.base (K := K) (.tup h2)
        refine isi tb' ub ⟨false, rfl, ?_⟩
        rw [if_neg Bool.false_ne_true]
        refine isi tb' ui ⟨false, rfl, ?_⟩
        rw [if_neg Bool.false_ne_true]
        refine isi tb' us ⟨false, rfl, ?_⟩
        rw [if_neg Bool.false_ne_true]
        refine isi tb' ut (isi ta ut ⟨by simp [scal], ?_⟩)
        rw [if_neg (fun h => h rfl)]
        refine isi tb' ul (isi ta ul ⟨by simp [scal], ?_⟩)
        rw [if_neg (fun h => h rfl)]
        exact fin _ go
/-- at any depth -/
theorem eq_deep {f : Addr} {fd : FuncData} (F : Fun K "_law_equal" "_law_equal" s__law_equal f fd) (T : TopF w K mg) (hmg : mg "_law_equal" = some (.ref f)) (hkp : PySem.W.keepIn K (.ref f) = true) (hb : L2.Binds K fd ["_law_actual", "_law_expected"] []) : ∀ n, FnOk P w K mg base CX0 n f fd ["_law_actual", "_law_expected"] (spEq n)
  | 0 => eq_base
  | n + 1 => eq_step F T hmg hkp hb (eq_deep F T hmg hkp hb n)
theorem ok__law_equal {f : Addr} {fd : FuncData} (F : Fun K "_law_equal" "_law_equal" s__law_equal f fd) (T : TopF w K mg) (hmg : mg "_law_equal" = some (.ref f)) (hkp : PySem.W.keepIn K (.ref f) = true) (hb : L2.Binds K fd ["_law_actual", "_law_expected"] []) : FnOk P w K mg base CX0 4 f fd ["_law_actual", "_law_expected"] (spEq 4) := by
  exact eq_deep F T hmg hkp hb 4
end

end Wv
end WvEQ_
section WvTN_
set_option Elab.async false
set_option linter.all false
set_option maxRecDepth 100000
set_option maxHeartbeats 4000000
/-! an expression behind which a token is out, whatever stood before -/
namespace Wv
open PySem PySem.Spec PyProof.Rows L2
def PEN (X : Cx) (e : Expr) (t : TE) : Prop := ∀ (pins : List (Addr × Obj)) (s : Shared) (σ : L2.St) (H : Hp) (Q : VK), Inv X pins σ H s → t σ H Q → wpAny (model X.prog X.w) X.A (eval e X.env) (fun u s' => 1 ≤ s'.toks ∧ EP X pins σ Q u s') X.xe s
def PAN (X : Cx) (es : List Expr) (t : TA) : Prop := ∀ (pos : Pos) (pins : List (Addr × Obj)) (s : Shared) (σ : L2.St) (H : Hp) (Q : List V → Hp → Prop), Inv X pins σ H s → t σ H Q → wpAny (model X.prog X.w) X.A (spliced (backTo pos (starEach es X.env))) (fun us s' => 1 ≤ s'.toks ∧ AP X pins σ Q us s') X.xe s
section
variable {X : Cx} {e o : Expr} {es : List Expr} {te to : TE} {ta t : TA} {k : Nat} {f : Addr} {fd : FuncData} {ps : List Str} {sp : Sp} {ds : List Value} {dvs : List V} {E : XK} {x : Str} {p pos : Pos} {CX : CXT}
theorem pen_int {i : Int} {j : Nat} {pos : Pos} : PEN X (.Constant (.int i) j pos) (tC (.int i)) := fun _ _ _ H _ I h => wpAny_Constant_int ⟨Nat.succ_le_succ (Nat.zero_le _), .int i, H, I.tok _, ⟨_, rfl⟩, h⟩
theorem pan_one (ha : PEN X e te) (hs : starEach [e] X.env = (false, eval e X.env) :: starEach [] X.env := by rfl) : PAN X [e] (tCons te tNil) := by
  intro pos pins s σ H Q I h
  rw [hs]
  show wpAny _ _ (spliced ((false, eval e X.env) :: backTo pos (starEach [] X.env))) _ _ s
  refine Calls.spliced_cons (wpAny_mono (ha pins s σ H _ I h) (fun v s1 q => ?_) fun _ _ z => z)
  obtain ⟨hk, y, H1, I1, r1, q1⟩ := q
  exact Calls.spliced_nil ⟨hk, [y], H1, I1, .cons r1 .nil, q1⟩
theorem pan_cons (ha : PE X e te) (hr : PAN X es ta) (hs : starEach (e :: es) X.env = (false, eval e X.env) :: starEach es X.env := by rfl) : PAN X (e :: es) (tCons te ta) := by
  intro pos pins s σ H Q I h
  rw [hs]
  show wpAny _ _ (spliced ((false, eval e X.env) :: backTo pos (starEach es X.env))) _ _ s
  refine Calls.spliced_cons (wpAny_mono (ha.run pins s σ H _ I h) (fun v s1 q => ?_) fun _ _ z => z)
  obtain ⟨y, H1, I1, r1, q1⟩ := q
  exact wpAny_mono (hr pos pins s1 σ H1 _ I1 q1) (fun us s2 ⟨hk, xs, H2, I2, r2, q2⟩ => ⟨hk, y :: xs, H2, I2, .cons r1 r2, q2⟩) fun _ _ z => z
theorem pen_call (F : FnOk X.prog X.w X.K X.mg X.base CX k f fd ps sp) (hr : Room k X.A) (hg : Gl X x) (hm : X.mg x = some (.ref f)) (hk : PySem.W.keepIn X.K (.ref f) = true) (hb : L2.Binds X.K fd ps ds) (hd : Vals dvs ds) (hx : Passes CX X E)
    (ha : PAN X (e :: es) t) (hdb : (x == ("__debug__" : Str)) = false := by decide) (he : starEach (e :: es) X.env = (false, eval e X.env) :: starEach es X.env := by rfl) (hpl : (backTo pos (starEach es X.env)).any (·.1) = false := by rfl) :
    PEN X (.Call (.Name x p) (e :: es) [] pos) (tCall sp dvs E t) := by
  intro pins s σ H Q I h
  refine wpAny_Call_Name_kw (ld_glob I hg hm ?_ hdb)
  refine PySem.W.callWith_K (h₀ := X.base) I.ok.mod.kin hk (wpAny_mono (ha pos pins s σ H _ I h) (fun us s1 q => ?_) fun _ _ z => z) he hpl
  obtain ⟨hk1, vs, H1, I1, r, q⟩ := q
  exact ⟨I1.kIn, wpAny_mono (PySem.wpAny_toks_of hk1 (run_fn F hr hb hd hx I1 r q)) (fun _ _ z => z) fun _ _ z => z.2⟩
theorem pe_replN {y z : Str} {j k : Nat} {c0 c1 apos pos : Pos} (ho : PEN X o to) (hyz : (y == z) = false := by decide)
    (hst : starEach [.Constant (.str y) j c0, .Constant (.str z) k c1] X.env = [(false, eval (.Constant (.str y) j c0) X.env), (false, eval (.Constant (.str z) k c1) X.env)] := by rfl)
    (hbase : attributeBase o "replace" X.env (eval o X.env) = eval o X.env := by rfl) (hline : (apos.endLine == pos.line) = true := by rfl) :
    PE X (.Call (.Attribute o "replace" apos) [.Constant (.str y) j c0, .Constant (.str z) k c1] [] pos) (CwR.tReplC to y z) := by
  refine ⟨fun pins s σ H Q I h => ?_⟩
  refine PySem.Call_method2 hbase hst hline (wpAny_mono (ho pins s σ H _ I h) (fun v s1 q => ?_) fun _ _ z => z)
  obtain ⟨hk, v', H1, I1, r1, x, e1, hb, q⟩ := q
  subst e1
  obtain ⟨tx, e2⟩ := r1
  subst e2
  have n1 : s1.toks ≠ 0 := by omega
  exact ⟨_, _, PySem.F.plainAttrs_str, PySem.F.slot_str_replace, PySem.F.type_str_replace, typeIs_str _ _ _, nofun, Calls.callWith_builtin rfl (Calls.evalArgs_plain (Calls.spliced_cons (Calls.Constant_str (Calls.spliced_cons (Calls.Constant_str
    (Calls.spliced_nil (PySem.SC.replace n1 (Nat.succ_ne_zero _) (Nat.ne_of_lt (Nat.lt_succ_self _)) hyz hb fun t' k => ⟨.str (Txt.replace x y z), H1, I1.tok k, ⟨t', rfl⟩, q⟩)))))))⟩
end
end Wv
end WvTN_
section WvPN_
set_option Elab.async false
set_option linter.all false
set_option maxRecDepth 100000
set_option maxHeartbeats 4000000
namespace Wv
open PySem PySem.Spec PyProof.Rows L2
/-- a def that may raise, called where it doesn't -/
theorem passN {X : Cx} : Passes (L2.CX X.prog X.w) X E0 := fun _ _ _ _ _ _ _ h => by
  obtain ⟨_, _, _, _, _, _, _, _, _, _, _, _, z⟩ := h
  exact z.elim
section
variable {X : Cx} {e o : Expr} {te to : TE}
theorem pen_str {y : Str} {j : Nat} {pos : Pos} : PEN X (.Constant (.str y) j pos) (tC (.str y)) := fun _ _ _ H _ I h => Calls.Constant_str ⟨Nat.succ_le_succ (Nat.zero_le _), .str y, H, I.tok _, ⟨_, rfl⟩, h⟩
/-- 'text'.join(..), a token out -/
theorem pen_join {apos pos : Pos} (ho : PEN X o to) (he : PE X e te) (hs : starEach [e] X.env = [(false, eval e X.env)] := by rfl) (hbase : attributeBase o "join" X.env (eval o X.env) = eval o X.env := by rfl) (hline : (apos.endLine == pos.line) = true := by rfl) :
    PEN X (.Call (.Attribute o "join" apos) [e] [] pos) (tM1 (fun x xs H Q => ∃ a p, ∃ ys : List Str, x = .str a ∧ xs = [.ref p] ∧ (SqL X.K H p (ys.map V.str) ∨ SqT X.K H p (ys.map V.str)) ∧
      (ys.map (·.length)).sum + ys.length * a.length ≤ 16777216 ∧ Q (.str (Txt.join a ys)) H) to te) := by
  intro pins s σ H Q I h
  refine PySem.Call_method1 hbase hs hline (wpAny_mono (ho pins s σ H _ I h) (fun v s1 q => ?_) fun _ _ z => z)
  obtain ⟨hk, x, H1, I1, r1, q1⟩ := q
  obtain ⟨⟨a, rfl⟩, q1⟩ := q1
  obtain ⟨t, rfl⟩ := _root_.id r1
  refine ⟨"str", _, F.plainAttrs_str, F.slot_str_join, F.type_str_join, typeIs_str _ _ _, (fun _ e => nomatch e), Calls.callWith_builtin rfl (Calls.evalArgs_plain (Calls.spliced_cons ?_))⟩
  refine wpAny_mono (PySem.wpAny_toks_of hk (he.run pins s1 σ H1 _ I1 q1)) (fun u s2 q => ?_) fun _ _ z => z.2
  obtain ⟨hk2, y, H2, I2, r2, q2⟩ := q
  exact Calls.spliced_nil (wpAny_mono (PySem.wpAny_toks_of hk2 (mt_join pins s2 σ H2 _ [y] _ [u] Q I2 r1 (.cons r2 .nil) q2)) (fun _ _ z => z) fun _ _ z => z.2)
end
end Wv
end WvPN_
section WvVL_
set_option Elab.async false
set_option linter.all false
set_option maxRecDepth 100000
set_option maxHeartbeats 4000000
namespace Wv
open PySem L2
open SX (S S_len S_inj)
local macro_rules | `(tactic| walk_at "rd") => `(tactic| (try simp only [tVar, tC, tB, tAnd, tOr, tNot, tAndV, tOrV, tNotV, tIf, tNext, tSeq, tBreak, tCont, tDrop, tRet, tRetN, tIfS, gName, gNil, gCons, gTup, gSub, tAsg, tPar, tAug, tOp, tUn, rI, rI0, rU, rEq, rNe, tTest, tFld, tNil, tCons, tTup, tLst, tCB, tNoPart, tPart, tSl, rIxL, rIxT, rIxS, rSlL, rSlS, tBM0, tBM, rAppend, rExtend, rCat, rRep, rSetL, tM0, tM1, tCall, tMeth, tMake, sFld, sFldAug, rAdd, rSub, ipI, tBM0,
  scal_ss, scal_ii, scal_bb, scal_ns, scal_sn, scal_nn, tyV_str, L2.start, List.map_cons, List.map_nil, List.length_cons, List.length_nil, List.replicate, List.cons_append, List.nil_append, List.append_nil, List.getElem?_cons_zero, List.getElem?_cons_succ, List.set_cons_zero, List.set_cons_succ, Nat.reduceAdd, Nat.reduceSub, Nat.zero_add, Nat.sub_self, Nat.add_one_sub_one,
  Option.some.injEq, exists_eq_left, exists_eq_left', exists_eq', exists_eq, V.int.injEq, V.str.injEq, V.ref.injEq, V.bl.injEq, reduceCtorEq, List.cons.injEq, and_true, true_and, exists_and_left, exists_and_right, and_assoc, decide_true, decide_false, if_true, if_false, ite_true, ite_false, Bool.false_eq_true, Bool.true_eq_false, eq_self_iff_true, cx_K, nox_K, tMkSyn, tMkChk, tYes, bne, ne_eq, not_false_eq_true, not_true_eq_false, Bool.not_true, Bool.not_false, decide_eq_true_eq, Bool.not_eq_true', decide_eq_false_iff_not]))
/-! ### `valves` -/
open LamX
section
variable {P : Program} {w : World} {K : PySem.W.Frag} {mg : Str → Option Value} {base : Heap}
theorem sc_valves : FnScope ["plan"] ["plan"] (defScope s_valves) := ⟨rfl, rfl, rfl, by decide +kernel, rfl, by decide +kernel, by decide +kernel⟩
def sp_valves (CS CC : Addr) (TT : List (Addr × Str)) : Sp := fun vs H Q E => ∃ z : List Nat, vs = [.str (S z)] ∧ z.length ≤ 40000 ∧ Tabs TT H ∧
  (∀ G, readP z = .ok G → ∀ q H', ExtN H H' → Tabs TT H' → (∀ b o, H b = some o → (∀ ps, o ≠ .tbl ps) → b ≠ q) → H' q = some (.lst (G.names.map fun n => V.str (S n))) → Q (.ref q) H') ∧ (∀ x y, readP z = .error (.syn x y) → ESyn CS H E x y) ∧ (∀ r x y, readP z = .error (.chk r x y) → EChk CC H E r x y)
theorem ok_valves {f CS CC CG : Addr} {fd : FuncData} {TT : List (Addr × Str)} (F : Fun K "valves" "valves" s_valves f fd) (T : TopF w K mg) (TG : CGarden K CG)
    (D_read_plan : DF P w K mg base (L2.CX P w) 14 "read_plan" ["plan"] (sp_read_plan CG CS CC TT)) :
    FnOk P w K mg base (L2.CX P w) 15 f fd ["plan"] (sp_valves CS CC TT) := by
  refine F.okX sc_valves (fun vs H Q E h => ?_) (fun cdv A outer s H vs Q E hr h => ?_)
  · obtain ⟨z, rfl, _⟩ := h
    rfl
  · obtain ⟨z, rfl, hz, hT, kY, kS, kC⟩ := h
    refine ⟨_, (pss_one (ps_ret (pe_callTy call_list_of (by rfl) T.z_list (by decide +kernel) (pa_cons (pe_fld (pe_call D_read_plan.G (hr.mono (by decide)) rfl D_read_plan.mg D_read_plan.kp D_read_plan.b .nil (passes_call (takes_of rfl rfl rfl rfl) fun _ _ _ _ z => z) (pa_cons (pv 0) pa_nil)) rfl) pa_nil)))), ?_⟩
    walk_at "rd"
    refine ⟨z, rfl, hz, hT, fun G hG g H1 e1 t1 hg gA => ?_, kS, kC⟩
    obtain ⟨dx, nl, rl, sl, dl, ql, sas, qas, h1, h2, h3⟩ := gA.ex
    refine ⟨g, rfl, CG, dx, _, h1, TG.cl, TG.n3, .ref nl, by simp only [V.ref.injEq, V.int.injEq, V.str.injEq, List.cons.injEq, Option.some.injEq, HO.ins.injEq, and_assoc, exists_and_left, exists_eq_left', exists_eq_left, true_and, and_true, upd_same, upd_upd, putF_nil, putF_cons, lookup_put, lookup_nil, if_false, if_true, List.length_cons, List.length_nil, exists_eq', exists_eq, Nat.reduceAdd, Nat.reduceLT, Nat.zero_add, n_period_limit, n_period_names, n_period_rank, n_period_starts, n_period_dry, n_period_requests, n_limit_period, n_limit_names, n_limit_rank, n_limit_starts, n_limit_dry, n_limit_requests, n_names_period, n_names_limit, n_names_rank, n_names_starts, n_names_dry, n_names_requests, n_rank_period, n_rank_limit, n_rank_names, n_rank_starts, n_rank_dry, n_rank_requests, n_starts_period, n_starts_limit, n_starts_names, n_starts_rank, n_starts_dry, n_starts_requests, n_dry_period, n_dry_limit, n_dry_names, n_dry_rank, n_dry_starts, n_dry_requests, n_requests_period, n_requests_limit, n_requests_names, n_requests_rank, n_requests_starts, n_requests_dry], nl, rfl, _, .inl (SqL.of h2), fun l nl' => ?_⟩
    exact kY G hG l _ (e1.trans (ExtN.of (same_new nl'))) (t1.ext (same_new nl')) (fun b o e nt => ne_of_none (e1 b o e nt) nl') upd_same
end

end Wv
end WvVL_
section Wv03_
set_option Elab.async false
set_option linter.all false
set_option maxRecDepth 100000
set_option maxHeartbeats 4000000
namespace Wv
open PySem L2
open SX (S S_len S_inj)
local macro_rules | `(tactic| walk_at "rd") => `(tactic| (try simp only [tVar, tC, tB, tAnd, tOr, tNot, tAndV, tOrV, tNotV, tIf, tNext, tSeq, tBreak, tCont, tDrop, tRet, tRetN, tIfS, gName, gNil, gCons, gTup, gSub, tAsg, tPar, tAug, tOp, tUn, rI, rI0, rU, rEq, rNe, tTest, tFld, tNil, tCons, tTup, tLst, tCB, tNoPart, tPart, tSl, rIxL, rIxT, rIxS, rSlL, rSlS, tBM0, tBM, rAppend, rExtend, rCat, rRep, rSetL, tM0, tM1, tCall, tMeth, tMake, sFld, sFldAug, rAdd, rSub, ipI, tBM0,
  scal_ss, scal_ii, scal_bb, scal_ns, scal_sn, scal_nn, tyV_str, L2.start, List.map_cons, List.map_nil, List.length_cons, List.length_nil, List.replicate, List.cons_append, List.nil_append, List.append_nil, List.getElem?_cons_zero, List.getElem?_cons_succ, List.set_cons_zero, List.set_cons_succ, Nat.reduceAdd, Nat.reduceSub, Nat.zero_add, Nat.sub_self, Nat.add_one_sub_one,
  Option.some.injEq, exists_eq_left, exists_eq_left', exists_eq', exists_eq, V.int.injEq, V.str.injEq, V.ref.injEq, V.bl.injEq, reduceCtorEq, List.cons.injEq, and_true, true_and, exists_and_left, exists_and_right, and_assoc, decide_true, decide_false, if_true, if_false, ite_true, ite_false, Bool.false_eq_true, Bool.true_eq_false, eq_self_iff_true, cx_K, nox_K, tMkSyn, tMkChk, tYes, bne, ne_eq, not_false_eq_true, not_true_eq_false, Bool.not_true, Bool.not_false, decide_eq_true_eq, Bool.not_eq_true', decide_eq_false_iff_not]))
/-! ### the law of k03 -/
open LamX
def sg3 (sl d : Addr) (i : Nat) (v3 v4 v5 v6 v7 v8 v9 v10 v11 : Option V) : L2.St := [some (.ref sl), some (.ref d), some (.int (i : Nat)), v3, v4, v5, v6, v7, v8, v9, v10, v11]
theorem tabs_stp {TT : List (Addr × Str)} {d : Addr} {H H' : Hp} (t : Tabs TT H) (g : GoodD H d) (s : Stp d H H') : Tabs TT H' := tabs_but t fun b o e nl => s.k b o (fun z => by
  obtain ⟨ys, hd, _⟩ := g
  rw [z, hd] at e
  exact nl ys (Option.some.inj e).symm) e
theorem good_extN {d : Addr} {H H' : Hp} (g : GoodD H d) (e : ExtN H H') : GoodD H' d := by
  obtain ⟨ys, hd, hg⟩ := g
  exact ⟨ys, e _ _ hd (fun ps z => by cases z), hg⟩
def gap4 : List (List Nat) := [[32], [32, 32], [10], [10, 32]]
theorem gap4_eq : ([V.str " ", V.str "  ", V.str "\n", V.str "\n "] : List V) = strR gap4 := by
  have : ([" ", "  ", "\n", "\n "] : List Str) = gap4.map S := by decide +kernel
  have := congrArg (List.map V.str) this
  rw [List.map_map] at this
  exact this
theorem gap4_ok : ∀ g ∈ gap4, g ≠ [] ∧ g.length ≤ 2 ∧ ∀ c ∈ g, c = 32 ∨ c = 10 := by decide
theorem gapped_all : ∀ {gs : List (List Nat × List Nat)}, (∀ x ∈ gs, x.1 ∈ gap4 ∧ OkW x.2) → Gapped gs
  | [], _ => True.intro
  | (g, z) :: r, h => by
    obtain ⟨h1, h2⟩ := h (g, z) (List.mem_cons_self ..)
    refine ⟨(gap4_ok g h1).2.2, h2, fun g2 z2 q e => .inl ?_, gapped_all fun x hx => h x (List.mem_cons_of_mem _ hx)⟩
    subst e
    exact (gap4_ok g2 (h (g2, z2) (List.mem_cons_of_mem _ (List.mem_cons_self ..))).1).1
theorem lineA_no10 {r : ARow} (h : r.ok) : 10 ∉ lineA r := by
  have hw := row_okW h
  unfold lineA
  intro hm
  rcases List.mem_append.mp hm with hm | hm
  · exact join_no (by decide) (fun p hp => (okW_ne (hw p (List.mem_append_left _ hp))).2.2) hm
  · exact absurd (List.mem_singleton.mp hm) (by decide)
theorem lineA_short {r : ARow} (h : r.ok) (h9 : r.w.length ≤ 9) : (lineA r).length ≤ 82 := by
  have hw := row_okW h
  have h1 := joinL_len [32] r.w
  have h2 := sum_le (b := 8) (ps := r.w) fun w hw' => okW_len (hw w (List.mem_append_left _ hw'))
  unfold lineA
  rw [List.length_append]
  simp at h1 ⊢
  omega
section
variable {P : Program} {w : World} {K : PySem.W.Frag} {mg : Str → Option Value} {base : Heap}
theorem sc_law : FnScope ["_law_script", "_law_d", "_law_step", "_law_plan", "_law_text_here", "_law_names", "_law_lines", "_law_loose", "_law_parts", "_law_other", "_law_part", "_law_found"] ["_law_script"] (defScope s_law) := ⟨rfl, rfl, rfl, by decide +kernel, rfl, by decide +kernel, by decide +kernel⟩
def sp_law (K : PySem.W.Frag) (TT : List (Addr × Str)) : Sp := fun vs H Q _ => ∃ (sl : Addr) (ns : List Int), vs = [.ref sl] ∧ SqL K H sl (ns.map V.int) ∧ ns.length ≤ 63 ∧ Tabs TT H ∧ ∀ H', Q (.bl true) H'
theorem ok_law {f CS CC : Addr} {fd : FuncData} {TT : List (Addr × Str)} (F : Fun K "law" "law" s_law f fd) (T : TopF w K mg)
    (D__law_random : DF P w K mg base CX0 1 "_law_random" ["_law_script", "_law_salt"] (sp__law_random K))
    (D__law_below : DF P w K mg base CX0 1 "_law_below" ["_law_d", "_law_limit"] sp__law_below)
    (D__law_wide : DF P w K mg base CX0 3 "_law_wide" ["_law_d", "_law_most"] sp__law_wide)
    (D__law_text : DF P w K mg base CX0 2 "_law_text" ["_law_plan"] sp__law_text)
    (D__law_loosened : DF P w K mg base CX0 3 "_law_loosened" ["_law_d", "_law_plan", "_law_lines"] sp__law_loosened)
    (D__law_equal : DF P w K mg base CX0 4 "_law_equal" ["_law_actual", "_law_expected"] (spEq 4))
    (D_format_plan : DF P w K mg base (L2.CX P w) 15 "format_plan" ["plan"] (sp_format_plan CS CC TT))
    (D_valves : DF P w K mg base (L2.CX P w) 15 "valves" ["plan"] (sp_valves CS CC TT)) :
    FnOk P w K mg base CX0 16 f fd ["_law_script"] (sp_law K TT) := by
  refine F.ok sc_law (fun vs H Q E h => ?_) (fun cdv A outer s H vs Q E hr h => ?_)
  · obtain ⟨sl, ns, rfl, _⟩ := h
    rfl
  · obtain ⟨sl, ns, rfl, hsl, hl, hT, k⟩ := h
    refine ⟨_, (pss_cons (ps_set (i := 1) sc_law.nd rfl (Or.inl rfl) (pe_call D__law_random.G (hr.mono (by decide)) rfl D__law_random.mg D__law_random.kp D__law_random.b .nil pass0 (pa_cons (pv 0) (pa_cons pe_int pa_nil))))
      (pss_cons (ps_for PassesOwn.never rfl (pi_range1 (by rfl) T.z_range (pa_cons pe_int pa_nil)) (pg_name (i := 2) sc_law.nd rfl (Or.inl rfl)) (pss_cons (ps_set (i := 3) sc_law.nd rfl (Or.inl rfl) (pe_call D__law_wide.G (hr.mono (by decide)) rfl D__law_wide.mg D__law_wide.kp D__law_wide.b .nil pass0 (pa_cons (pv 1) (pa_cons pe_int pa_nil))))
      (pss_cons (ps_par (i := 4) (j := 5) rfl sc_law.nd rfl rfl (by decide) rfl rfl (pa_cons (pe_call D__law_text.G (hr.mono (by decide)) rfl D__law_text.mg D__law_text.kp D__law_text.b .nil pass0 (pa_cons (pv 3) pa_nil)) (pa_cons (pe_callTy call_list_of (by rfl) T.z_list (by decide +kernel) (pa_cons (pe_ix ix_tup (pv 3) pe_int (fun _ _ => rfl)) pa_nil)) pa_nil)) (by rfl))
      (pss_cons (ps_set (i := 6) sc_law.nd rfl (Or.inl rfl) (pe_split (pv 4) pe_str))
      (pss_cons (ps_set (i := 7) sc_law.nd rfl (Or.inl rfl) (pe_call D__law_loosened.G (hr.mono (by decide)) rfl D__law_loosened.mg D__law_loosened.kp D__law_loosened.b .nil pass0 (pa_cons (pv 1) (pa_cons (pv 3) (pa_cons (pe_slice sl_list (pv 6) (po_some pe_int) po_none) pa_nil)))))
      (pss_cons (ps_set (i := 8) sc_law.nd rfl (Or.inl rfl) (pe_words (pe_replN (pen_join pen_str (pe_op op_cat (pe_slice sl_list (pv 6) po_none (po_some pe_int)) (pv 7))))))
      (pss_cons (ps_set (i := 9) sc_law.nd rfl (Or.inl rfl) pe_str)
      (pss_cons (ps_for PassesOwn.never rfl (pi_list (pv 8)) (pg_name (i := 10) sc_law.nd rfl (Or.inl rfl)) (pss_one (ps_set (i := 9) sc_law.nd rfl (Or.inl rfl) (pe_op op_add_str (pe_op op_add_str (pv 9) (pe_ix ix_list (pe_lst (pa_cons pe_str (pa_cons pe_str (pa_cons pe_str (pa_cons pe_str pa_nil))))) (pe_call D__law_below.G (hr.mono (by decide)) rfl D__law_below.mg D__law_below.kp D__law_below.b .nil pass0 (pa_cons (pv 1) (pa_cons pe_int pa_nil))) (fun _ _ => rfl))) (pv 10)))))
      (pss_cons (ps_set (i := 11) sc_law.nd rfl (Or.inl rfl) (pe_call D_valves.G (hr.mono (by decide)) rfl D_valves.mg D_valves.kp D_valves.b .nil passN (pa_cons (pv 9) pa_nil)))
      (pss_cons (ps_if (pt_not (pt_val (pe_call D__law_equal.G (hr.mono (by decide)) rfl D__law_equal.mg D__law_equal.kp D__law_equal.b .nil pass0 (pa_cons (pe_lst (pa_cons (pe_call D_format_plan.G (hr.mono (by decide)) rfl D_format_plan.mg D_format_plan.kp D_format_plan.b .nil passN (pa_cons (pv 4) pa_nil)) (pa_cons (pe_call D_format_plan.G (hr.mono (by decide)) rfl D_format_plan.mg D_format_plan.kp D_format_plan.b .nil passN (pa_cons (pv 9) pa_nil)) (pa_cons (pv 11) pa_nil)))) (pa_cons (pe_lst (pa_cons (pv 4) (pa_cons (pv 4) (pa_cons (pv 5) pa_nil)))) pa_nil))))) (pss_one (ps_ret pe_bl)) pss_nil)
      (pss_cons (ps_expr (pe_bm PySem.F.plainAttrs_list PySem.F.slot_list_append PySem.F.type_list_append mt_append (pv 11) (pa_cons pe_int pa_nil)))
      (pss_one (ps_if (pt_cmpR (op_neD hr.units) (pe_call D_valves.G (hr.mono (by decide)) rfl D_valves.mg D_valves.kp D_valves.b .nil passN (pa_cons (pv 4) pa_nil)) (pv 5) (nomark _)) (pss_one (ps_ret pe_bl)) pss_nil)))))))))))))
      (pss_one (ps_ret pe_bl)))), ?_⟩
    have hT0 := hT
    refine seq_cut (fun σ H1 => ∃ d, H d = none ∧ Same H H1 ∧ GoodD H1 d ∧ σ = [some (.ref sl), some (.ref d), none, none, none, none, none, none, none, none, none, none]) (fun J hJ => ?_) ?_
    · walk_at "rd"
      refine ⟨sl, ns, 3, rfl, hsl, hl, by decide, fun d ys H1 nd s1 hd gy => hJ _ _ ⟨d, nd, s1, ⟨ys, hd, gy⟩, rfl⟩⟩
    rintro _ H1 ⟨d, nd, s1, gd1, rfl⟩
    have hT1 := hT.ext s1
    refine seq_cut (fun σ H' => True) (fun J hJ => ?_) ?_
    · refine for_rg1 (fun r H' => H' = H1) (fun r i σ H' => ∃ v : List (Option V), v.length = 10 ∧ σ = some (.ref sl) :: some (.ref d) :: v ∧ GoodD H' d ∧ Tabs TT H') (fun B hB => ?_) (fun r H' e => ⟨_, rfl, rfl, by rw [e]; exact gd1, by rw [e]; exact hT1⟩) ?_ (fun _ _ _ _ => hJ _ _ True.intro)
      · exact ⟨4, rfl, by decide, by decide, hB _ _ rfl⟩
      rintro r i σ H2 hi ⟨v, hv, rfl, gd2, hT2⟩
      obtain ⟨v2, v3, v4, v5, v6, v7, v8, v9, v10, v11, rfl⟩ : ∃ a2 a3 a4 a5 a6 a7 a8 a9 a10 a11 : Option V, v = [a2, a3, a4, a5, a6, a7, a8, a9, a10, a11] := by
        match v, hv with
        | [a2, a3, a4, a5, a6, a7, a8, a9, a10, a11], _ => exact ⟨_, _, _, _, _, _, _, _, _, _, rfl⟩
      show tSeq _ _ _ (sg3 sl d i v3 v4 v5 v6 v7 v8 v9 v10 v11) H2
      refine seq_cut (fun σ H' => ∃ pl p, Stp d H2 H' ∧ H2 pl = none ∧ PlanAt (hide H' d) pl p ∧ PlanOk p ∧ σ = sg3 sl d i (some (.ref pl)) v4 v5 v6 v7 v8 v9 v10 v11) (fun J2 hJ2 => ?_) ?_
      · unfold sg3
        walk_at "rd"
        exact ⟨d, 8, rfl, by decide, by decide, gd2, fun pl p H3 s3 npl hP hok hnl => hJ2 _ _ ⟨pl, p, s3, npl, hP, hok, rfl⟩⟩
      rintro _ H3 ⟨pl, p, s3, npl, hP, hO, rfl⟩
      have hG := plan_good hO
      refine seq_cut (fun σ H' => ∃ nl, Stp d H3 H' ∧ AtD d H' nl (.lst (strR p.names)) ∧ σ = sg3 sl d i (some (.ref pl)) (some (.str (S (textP p)))) (some (.ref nl)) v6 v7 v8 v9 v10 v11) (fun J2 hJ2 => ?_) ?_
      · unfold sg3
        walk_at "rd"
        refine ⟨pl, p, rfl, plan_mono hP hide_le, hG, fun H4 s4 => ?_⟩
        obtain ⟨na, ra, sa, qa, sas, hpl, hna, _⟩ := hP.ex
        refine ⟨_, SqT.of (s4 _ _ (hide_some hpl).2), _, atI_nat (j := 2) rfl, na, rfl, _, .inr (SqT.of (s4 _ _ (hide_some hna).2)), fun l nl => ?_⟩
        have t4 := Stp.same s4 s3.g
        exact hJ2 _ _ ⟨l, t4.new nl, .new t4.g nl, rfl⟩
      rintro _ H4 ⟨nl, s4, hnl, rfl⟩
      have hrA := arows_ok hO
      have hokA := head_ok hO fun r hr' => (hrA.ok r hr').1
      have etx : textP p = TL.joinL [10] ((ARow.round p.len :: .opn p.most :: .valves p.names :: arowsP p).map lineA) := by
        unfold textP
        rw [rows_arows, List.map_map]
        rfl
      have esp : Txt.split (S (textP p)) "\n" = ((ARow.round p.len :: .opn p.most :: .valves p.names :: arowsP p).map lineA).map S := by
        rw [str_lf, SX.split_S (a := textP p) (b := [10]) (by decide) (by decide), ← split_lines (ls := (ARow.round p.len :: .opn p.most :: .valves p.names :: arowsP p).map lineA) (by simp) (fun l hl => by
          obtain ⟨r, hr', rfl⟩ := List.mem_map.mp hl
          exact lineA_no10 (hokA r hr')), ← etx]
        rfl
      refine seq_cut (fun σ H' => ∃ ll, Stp d H3 H' ∧ AtD d H' ll (.lst (strR ((ARow.round p.len :: .opn p.most :: .valves p.names :: arowsP p).map lineA))) ∧ AtD d H' nl (.lst (strR p.names)) ∧ σ = sg3 sl d i (some (.ref pl)) (some (.str (S (textP p)))) (some (.ref nl)) (some (.ref ll)) v7 v8 v9 v10 v11) (fun J2 hJ2 => ?_) ?_
      · unfold sg3
        walk_at "rd"
        have := textP_short hO
        refine ⟨by decide +kernel, by rw [S_len]; exact line_of (by omega), ?_⟩
        rw [esp]
        intro l nl'
        have e : (((ARow.round p.len :: .opn p.most :: .valves p.names :: arowsP p).map lineA).map S).map V.str = strR ((ARow.round p.len :: .opn p.most :: .valves p.names :: arowsP p).map lineA) := List.map_map ..
        rw [e]
        exact hJ2 _ _ ⟨l, s4.new nl', .new s4.g nl', hnl.mono ((Stp.refl s4.g).new nl'), rfl⟩
      rintro _ H5 ⟨ll, s5, hll, hnl, rfl⟩
      refine seq_cut (fun σ H' => ∃ lo rs, Stp d H3 H' ∧ AtD d H' lo (.lst (strR (rs.map lineA))) ∧ RowsOk p rs ∧ rs.length ≤ 150 ∧ AtD d H' ll (.lst (strR ((ARow.round p.len :: .opn p.most :: .valves p.names :: arowsP p).map lineA))) ∧ AtD d H' nl (.lst (strR p.names)) ∧ σ = sg3 sl d i (some (.ref pl)) (some (.str (S (textP p)))) (some (.ref nl)) (some (.ref ll)) (some (.ref lo)) v8 v9 v10 v11) (fun J2 hJ2 => ?_) ?_
      · unfold sg3
        walk_at "rd"
        refine ⟨_, SqL.of hll.at_, fun e ne => ?_⟩
        rw [show cutV (strR ((ARow.round p.len :: .opn p.most :: .valves p.names :: arowsP p).map lineA)) (some 3) none = strR ((arowsP p).map lineA) from cutV_drop (n := 3)]
        have se := (Stp.refl s5.g).new (o := .lst (strR ((arowsP p).map lineA))) ne
        have ae : AtD d (upd H5 e (.lst (strR ((arowsP p).map lineA)))) e (.lst (strR ((arowsP p).map lineA))) := .new s5.g ne
        generalize upd H5 e (.lst (strR ((arowsP p).map lineA))) = H6 at *
        have s36 := s5.trans se
        exact ⟨d, pl, e, p, rfl, s36.g, plan_mono hP (keep_hide s36), hO, ae, fun q rs H7 s7 nq hq hrs hrl => hJ2 _ _ ⟨q, rs, s36.trans s7, hq, hrs, hrl, hll.mono (se.trans s7), hnl.mono (se.trans s7), rfl⟩⟩
      rintro _ H6 ⟨lo, rs, s6, hlo, hrs, hrl, hll, hnl, rfl⟩
      have hokR := head_ok hO fun r hr' => (hrs.ok r hr').1
      have hwl := rowsT_len hO hrs hrl
      have hwok : ∀ w ∈ rowsT (ARow.round p.len :: .opn p.most :: .valves p.names :: rs), OkW w := fun w hw => by
        obtain ⟨r, hr', hw⟩ := List.mem_flatMap.mp hw
        exact row_okW (hokR r hr') w hw
      refine seq_cut (fun σ H' => ∃ pa, Stp d H3 H' ∧ AtD d H' pa (.lst (strR (rowsT (ARow.round p.len :: .opn p.most :: .valves p.names :: rs)))) ∧ AtD d H' nl (.lst (strR p.names)) ∧ σ = sg3 sl d i (some (.ref pl)) (some (.str (S (textP p)))) (some (.ref nl)) (some (.ref ll)) (some (.ref lo)) (some (.ref pa)) v9 v10 v11) (fun J2 hJ2 => ?_) ?_
      · unfold sg3
        walk_at "rd"
        have h3 : cutV (strR ((ARow.round p.len :: .opn p.most :: .valves p.names :: arowsP p).map lineA)) none (some 3) = strR ((ARow.round p.len :: .opn p.most :: .valves p.names :: ([] : List ARow)).map lineA) := cut_take (m := 3)
        have hle : ∀ r ∈ (ARow.round p.len :: .opn p.most :: .valves p.names :: rs), (lineA r).length ≤ 82 := fun r hr' => lineA_short (hokR r hr') (row_len hO hrs hr')
        have hsum := sum_le (b := 82) (ps := (ARow.round p.len :: .opn p.most :: .valves p.names :: rs).map lineA) fun l hl => by
          obtain ⟨r, hr', rfl⟩ := List.mem_map.mp hl
          exact hle r hr'
        rw [List.length_map] at hsum
        simp only [List.length_cons] at hsum
        refine ⟨⟨_, rfl⟩, _, rfl, 3, rfl, ll, _, rfl, SqL.of hll.at_, fun q nq => ?_⟩
        rw [h3]
        have sq := (Stp.refl s6.g).new (o := .lst (strR ((ARow.round p.len :: .opn p.most :: .valves p.names :: ([] : List ARow)).map lineA))) nq
        have aq : AtD d (upd H6 q (.lst (strR ((ARow.round p.len :: .opn p.most :: .valves p.names :: ([] : List ARow)).map lineA)))) q (.lst (strR ((ARow.round p.len :: .opn p.most :: .valves p.names :: ([] : List ARow)).map lineA))) := .new s6.g nq
        generalize upd H6 q (.lst (strR ((ARow.round p.len :: .opn p.most :: .valves p.names :: ([] : List ARow)).map lineA))) = H7 at *
        refine ⟨_, rfl, q, lo, _, _, rfl, rfl, aq.at_, (hlo.mono sq).at_, line_of (by simp [strR]; omega), fun e ne => ?_⟩
        rw [strR_app', ← List.map_append]
        have se := (Stp.refl sq.g).new (o := .lst (strR ((ARow.round p.len :: .opn p.most :: .valves p.names :: ([] : List ARow) ++ rs).map lineA))) ne
        have ae : AtD d (upd H7 e (.lst (strR ((ARow.round p.len :: .opn p.most :: .valves p.names :: ([] : List ARow) ++ rs).map lineA)))) e (.lst (strR ((ARow.round p.len :: .opn p.most :: .valves p.names :: ([] : List ARow) ++ rs).map lineA))) := .new sq.g ne
        generalize upd H7 e (.lst (strR ((ARow.round p.len :: .opn p.most :: .valves p.names :: ([] : List ARow) ++ rs).map lineA))) = H8 at *
        have ae : AtD d H8 e (.lst (strR ((ARow.round p.len :: .opn p.most :: .valves p.names :: rs).map lineA))) := ae
        have hjl := joinL_len [10] ((ARow.round p.len :: .opn p.most :: .valves p.names :: rs).map lineA)
        rw [List.length_map] at hjl
        simp only [List.length_cons, List.length_nil] at hjl
        refine ⟨_, rfl, _, rfl, ((ARow.round p.len :: .opn p.most :: .valves p.names :: rs).map lineA).map S, .inl (SqL.of (by rw [List.map_map]; exact ae.at_)), ?_, ?_⟩
        · rw [List.map_map, List.length_map, show (List.map ((fun x => Str.length x) ∘ S) ((ARow.round p.len :: .opn p.most :: .valves p.names :: rs).map lineA)) = ((ARow.round p.len :: .opn p.most :: .valves p.names :: rs).map lineA).map List.length from List.map_congr_left fun x _ => S_len .., List.length_map, str_lf, S_len]
          simp only [List.length_cons]
          have h1 : ([10] : List Nat).length = 1 := rfl
          show _ + _ * 1 ≤ _
          omega
        · rw [str_lf, join_S]
          have hz : (TL.joinL [10] ((ARow.round p.len :: .opn p.most :: .valves p.names :: rs).map lineA)).length ≤ 20000 := by omega
          have e2 : (" ; " : Str).length = 3 := by decide +kernel
          have hrp := TK.replace_len (S (TL.joinL [10] ((ARow.round p.len :: .opn p.most :: .valves p.names :: rs).map lineA))) ";" " ; "
          have eS : (S (TL.joinL [10] ((ARow.round p.len :: .opn p.most :: .valves p.names :: rs).map lineA))).length = (TL.joinL [10] ((ARow.round p.len :: .opn p.most :: .valves p.names :: rs).map lineA)).length := S_len ..
          rw [e2, eS] at hrp
          refine ⟨_, rfl, by rw [eS, e2]; omega, ⟨_, rfl⟩, _, rfl, Nat.le_trans (m := 100000) (by omega) (by decide), fun l nl' => ?_⟩
          rw [rows_words3 hokR]
          have e3 : ((rowsT (ARow.round p.len :: .opn p.most :: .valves p.names :: rs)).map S).map V.str = strR (rowsT (ARow.round p.len :: .opn p.most :: .valves p.names :: rs)) := List.map_map ..
          rw [e3]
          have s38 := (s6.trans sq).trans se
          exact hJ2 _ _ ⟨l, s38.new nl', .new s38.g nl', hnl.mono ((sq.trans se).new nl'), rfl⟩
      rintro _ H7 ⟨pa, s7, hpa, hnl, rfl⟩
      refine seq_cut (fun σ H' => σ = sg3 sl d i (some (.ref pl)) (some (.str (S (textP p)))) (some (.ref nl)) (some (.ref ll)) (some (.ref lo)) (some (.ref pa)) (some (.str (S []))) v10 v11 ∧ H' = H7) (fun J2 hJ2 => ?_) ?_
      · unfold sg3
        walk_at "rd"
        rw [str_empty]
        exact hJ2 _ _ ⟨rfl, rfl⟩
      rintro _ H7' ⟨rfl, e7⟩
      subst e7
      refine seq_cut (fun σ H' => ∃ gs v10, gs.map (·.2) = rowsT (ARow.round p.len :: .opn p.most :: .valves p.names :: rs) ∧ (∀ x ∈ gs, x.1 ∈ gap4 ∧ OkW x.2) ∧ Stp d H3 H' ∧ AtD d H' nl (.lst (strR p.names)) ∧ σ = sg3 sl d i (some (.ref pl)) (some (.str (S (textP p)))) (some (.ref nl)) (some (.ref ll)) (some (.ref lo)) (some (.ref pa)) (some (.str (S (textW gs)))) v10 v11) (fun J2 hJ2 => ?_) ?_
      · unfold sg3
        walk_at "rd"
        refine ⟨_, rfl, pa, rfl, ⟨_, SqL.of hpa.at_⟩, ?_⟩
        refine for_it (walk_list (xs := strR (rowsT (ARow.round p.len :: .opn p.most :: .valves p.names :: rs)))) (fun j σ H' => ∃ gs v10, gs.map (·.2) = (rowsT (ARow.round p.len :: .opn p.most :: .valves p.names :: rs)).take j ∧ (∀ x ∈ gs, x.1 ∈ gap4 ∧ OkW x.2) ∧ Stp d H3 H' ∧ AtD d H' nl (.lst (strR p.names)) ∧ AtD d H' pa (.lst (strR (rowsT (ARow.round p.len :: .opn p.most :: .valves p.names :: rs)))) ∧ σ = sg3 sl d i (some (.ref pl)) (some (.str (S (textP p)))) (some (.ref nl)) (some (.ref ll)) (some (.ref lo)) (some (.ref pa)) (some (.str (S (textW gs)))) v10 v11)
          ⟨[], v10, rfl, fun x h => (by cases h), s7, hnl, hpa, rfl⟩ (fun j σ H' _ h => ?_) ?_ ?_
        · obtain ⟨_, _, _, _, _, _, h, _⟩ := h
          exact SqL.of h.at_
        · rintro j x σ H8 H9 hj ⟨gs, v10, g1, g2, s8, hnl8, hpa8, rfl⟩ ⟨rfl, hx⟩
          have hj : j < (rowsT (ARow.round p.len :: .opn p.most :: .valves p.names :: rs)).length := by simpa [strR] using hj
          obtain rfl : V.str (S (rowsT (ARow.round p.len :: .opn p.most :: .valves p.names :: rs))[j]) = x := by
            unfold strR at hx
            rw [List.getElem?_map, List.getElem?_eq_getElem hj] at hx
            exact Option.some.inj hx
          have hgl : gs.length ≤ 1530 := by
            have := congrArg List.length g1
            rw [List.length_map, List.length_take] at this
            omega
          have hgt := textW_len (gs := gs) fun x hx => ⟨(gap4_ok _ (g2 x hx).1).2.1, okW_len (g2 x hx).2⟩
          have hwj := hwok _ (List.getElem_mem hj)
          have hw8 := okW_len hwj
          unfold sg3
          walk_at "rd"
          rw [gap4_eq]
          refine ⟨by decide, fun e ne => ?_⟩
          have se := (Stp.refl s8.g).new (o := .lst (strR gap4)) ne
          have ae : AtD d (upd H9 e (.lst (strR gap4))) e (.lst (strR gap4)) := .new s8.g ne
          generalize upd H9 e (.lst (strR gap4)) = H10 at *
          refine blK 4 (by decide) (by decide) se.g fun a H11 ha s11 => ?_
          have hga : gap4[a] ∈ gap4 := List.getElem_mem (show a < gap4.length from ha)
          have hg2 := (gap4_ok _ hga).2.1
          have t11 := se.trans s11
          refine ⟨_, _, rfl, SqL.of (ae.mono s11).at_, .str (S gap4[a]), atI_nat (by unfold strR; rw [List.getElem?_map, List.getElem?_eq_getElem (show a < gap4.length from ha)]; rfl), _, rfl, by rw [S_len, S_len]; exact line_of (by omega), ?_⟩
          rw [SX.S_cat]
          refine ⟨by rw [S_len, S_len, List.length_append]; exact line_of (by omega), gs ++ [(gap4[a], (rowsT (ARow.round p.len :: .opn p.most :: .valves p.names :: rs))[j])], ?_, fun x hx => ?_, s8.trans t11, hnl8.mono t11, hpa8.mono t11, ?_⟩
          · rw [List.map_append, g1, List.take_add_one, List.getElem?_eq_getElem hj]
            rfl
          · rcases List.mem_append.mp hx with hx | hx
            · exact g2 x hx
            · obtain rfl := List.mem_singleton.mp hx
              exact ⟨hga, hwj⟩
          · rw [SX.S_cat, textW_app]
            show S _ = S (textW gs ++ (gap4[a] ++ ((rowsT (ARow.round p.len :: .opn p.most :: .valves p.names :: rs))[j] ++ [])))
            rw [List.append_nil, List.append_assoc]
        · rintro σ H8 ⟨gs, v10, g1, g2, s8, hnl8, hpa8, rfl⟩
          rw [show (strR (rowsT (ARow.round p.len :: .opn p.most :: .valves p.names :: rs))).length = (rowsT (ARow.round p.len :: .opn p.most :: .valves p.names :: rs)).length by simp [strR], List.take_length] at g1
          exact hJ2 _ _ ⟨gs, v10, g1, g2, s8, hnl8, rfl⟩
      rintro _ H8 ⟨gs, v10, g1, g2, s8, hnl8, rfl⟩
      have hT8 : Tabs TT H8 := tabs_stp (tabs_stp hT2 gd2 s3) s3.g s8
      have hgl : gs.length ≤ 1530 := by
        have := congrArg List.length g1
        rw [List.length_map] at this
        omega
      have hgt : (textW gs).length ≤ 40000 := by
        have := textW_len (gs := gs) fun x hx => ⟨(gap4_ok _ (g2 x hx).1).2.1, okW_len (g2 x hx).2⟩
        omega
      have rdO : readP (textW gs) = .ok (gardP p) := read_plan_rows hO hrs (gapped_all g2) g1
      have rdP : readP (textP p) = .ok (gardP p) := read_P hO
      have noerr : ∀ {z : List Nat}, readP z = .ok (gardP p) → ∀ {H' : Hp} {E : XK}, (∀ x y, readP z = .error (.syn x y) → ESyn CS H' E x y) ∧ (∀ r x y, readP z = .error (.chk r x y) → EChk CC H' E r x y) := fun {z} hz {H' E} => ⟨fun x y e => (by rw [hz] at e; cases e), fun r x y e => (by rw [hz] at e; cases e)⟩
      refine seq_cut (fun σ H' => ∃ fo, ExtN H8 H' ∧ Tabs TT H' ∧ H' fo = some (.lst (strR p.names)) ∧ nl ≠ fo ∧ fo ≠ d ∧ σ = sg3 sl d i (some (.ref pl)) (some (.str (S (textP p)))) (some (.ref nl)) (some (.ref ll)) (some (.ref lo)) (some (.ref pa)) (some (.str (S (textW gs)))) v10 (some (.ref fo))) (fun J2 hJ2 => ?_) ?_
      · unfold sg3
        walk_at "rd"
        refine ⟨_, rfl, hgt, hT8, fun G hG q H9 e9 t9 nb hq => ?_, (noerr rdO).1, (noerr rdO).2⟩
        rw [rdO] at hG
        obtain rfl := Except.ok.inj hG
        exact hJ2 _ _ ⟨q, e9, t9, hq, nb _ _ hnl8.at_ (fun ps z => by cases z), (by
          obtain ⟨ys, hd, _⟩ := s8.g
          exact Ne.symm (nb _ _ hd (fun ps z => by cases z))), rfl⟩
      rintro _ H9 ⟨fo, e9, hT9, hfo, nnf, nfd, rfl⟩
      have hnl9 : H9 nl = some (.lst (strR p.names)) := e9 _ _ hnl8.at_ (fun ps z => by cases z)
      have g9 := good_extN s8.g e9
      have hpt := textP_short hO
      refine seq_cut (fun σ H' => ExtN H9 H' ∧ Tabs TT H' ∧ σ = sg3 sl d i (some (.ref pl)) (some (.str (S (textP p)))) (some (.ref nl)) (some (.ref ll)) (some (.ref lo)) (some (.ref pa)) (some (.str (S (textW gs)))) v10 (some (.ref fo))) (fun J2 hJ2 => ?_) ?_
      · unfold sg3
        walk_at "rd"
        refine ⟨_, rfl, by omega, hT9, fun G hG H10 e10 t10 => ?_, (noerr rdP).1, (noerr rdP).2⟩
        rw [rdP] at hG
        obtain rfl := Except.ok.inj hG
        refine ⟨_, rfl, hgt, t10, fun G hG H11 e11 t11 => ?_, (noerr rdO).1, (noerr rdO).2⟩
        rw [rdO] at hG
        obtain rfl := Except.ok.inj hG
        rw [text_P hO]
        refine ⟨by decide, fun a na => ⟨by decide, fun b nb => ?_⟩⟩
        have sa := same_new (o := .lst [V.str (S (textP p)), V.str (S (textP p)), V.ref fo]) na
        have aa : (upd H11 a (.lst [V.str (S (textP p)), V.str (S (textP p)), V.ref fo])) a = some (.lst [V.str (S (textP p)), V.str (S (textP p)), V.ref fo]) := upd_same
        generalize upd H11 a (.lst [V.str (S (textP p)), V.str (S (textP p)), V.ref fo]) = H12 at *
        have sb := same_new (o := .lst [V.str (S (textP p)), V.str (S (textP p)), V.ref nl]) nb
        have ab : (upd H12 b (.lst [V.str (S (textP p)), V.str (S (textP p)), V.ref nl])) b = some (.lst [V.str (S (textP p)), V.str (S (textP p)), V.ref nl]) := upd_same
        generalize upd H12 b (.lst [V.str (S (textP p)), V.str (S (textP p)), V.ref nl]) = H13 at *
        have e13 : ExtN H9 H13 := (e10.trans e11).trans ((ExtN.of sa).trans (ExtN.of sb))
        have hfo13 := e13 _ _ hfo (fun ps z => by cases z)
        have hnl13 := e13 _ _ hnl9 (fun ps z => by cases z)
        refine ⟨_, _, rfl, .inr ⟨a, b, _, _, rfl, rfl, .inl ⟨sb _ _ aa, ab⟩, rfl, (by show 3 ≤ 1000; decide), fun i u v hu hv => ?_⟩, fun H14 s14 => ⟨true, rfl, ?_⟩⟩
        · match i, hu, hv with
          | 0, hu, hv =>
            obtain rfl := Option.some.inj hu
            obtain rfl := Option.some.inj hv
            exact .inl ⟨rfl, True.intro⟩
          | 1, hu, hv =>
            obtain rfl := Option.some.inj hu
            obtain rfl := Option.some.inj hv
            exact .inl ⟨rfl, True.intro⟩
          | 2, hu, hv =>
            obtain rfl := Option.some.inj hu
            obtain rfl := Option.some.inj hv
            refine .inr ⟨fo, nl, _, _, rfl, rfl, .inl ⟨hfo13, hnl13⟩, rfl, by have := hO.n2; simp [strR]; omega, fun i u v hu hv => ?_⟩
            rw [hu] at hv
            obtain rfl := Option.some.inj hv
            obtain ⟨z, _, rfl⟩ := List.mem_map.mp (List.mem_of_getElem? hu)
            exact .inl ⟨rfl, True.intro⟩
          | i + 3, hu, hv => cases hu
        · rw [if_neg (by decide)]
          exact hJ2 _ _ ⟨e13.trans (ExtN.of s14), (t11.ext (sa.trans sb)).ext s14, rfl⟩
      rintro _ H10 ⟨e10, hT10, rfl⟩
      have hfo10 := e10 _ _ hfo (fun ps z => by cases z)
      have hnl10 := e10 _ _ hnl9 (fun ps z => by cases z)
      have g10 := good_extN g9 e10
      refine seq_cut (fun σ H' => GoodD H' d ∧ Tabs TT H' ∧ H' nl = some (.lst (strR p.names)) ∧ σ = sg3 sl d i (some (.ref pl)) (some (.str (S (textP p)))) (some (.ref nl)) (some (.ref ll)) (some (.ref lo)) (some (.ref pa)) (some (.str (S (textW gs)))) v10 (some (.ref fo))) (fun J2 hJ2 => ?_) ?_
      · unfold sg3
        walk_at "rd"
        refine ⟨tyV_lst hfo10, _, hfo10, line_lt (by have := hO.n2; simp [strR]; omega), hJ2 _ _ ⟨?_, ?_, (upd_ne nnf).trans hnl10, rfl⟩⟩
        · obtain ⟨ys, hd, hg⟩ := g10
          exact ⟨ys, (upd_ne (Ne.symm nfd)).trans hd, hg⟩
        · exact tabs_but hT10 fun b o e nl' => (upd_ne (fun z => by rw [z, hfo10] at e; exact nl' _ (Option.some.inj e).symm)).trans e
      rintro _ H11 ⟨g11, hT11, hnl11, rfl⟩
      unfold sg3
      walk_at "rd"
      refine ⟨_, rfl, by omega, hT11, fun G hG q H12 e12 t12 nb hq => ?_, (noerr rdP).1, (noerr rdP).2⟩
      rw [rdP] at hG
      obtain rfl := Except.ok.inj hG
      have hnl12 := e12 _ _ hnl11 (fun ps z => by cases z)
      have fl : ∀ x ∈ strR p.names, FlatV x := flat_S fun z hz => name_ascii (pool_name z (hO.np z hz))
      have hq : H12 q = some (.lst (strR p.names)) := hq
      refine ⟨.list _, .list _, .lst (SqL.of hq) (dp_all fl), .lst (SqL.of hnl12) (dp_all fl), shaped_flat fl, shaped_flat fl, false, ?_, ?_⟩
      · rw [strs_eqv, decide_eq_true rfl]
        rfl
      · rw [if_neg Bool.false_ne_true]
        exact ⟨_, rfl, rfl, good_extN g11 e12, t12⟩
    rintro σ H2 _
    walk_at "rd"
    exact k H2
end

end Wv
end Wv03_
section WvH2_
set_option Elab.async false
set_option linter.all false
set_option maxRecDepth 100000

set_option maxHeartbeats 4000000
namespace Wv
open PySem PySem.Spec PyProof.Rows L2 He LamX
theorem super_out : (PR.main.scope.names.lookup ("super" : Str)).isSome = false := by decide +kernel
theorem facts {w : World} {K : PySem.W.Frag} {h : Heap} {mg : Str → Option Value} {f : Addr} (X : K.In h) (G : h.Ns mainGlobals mg) (hfa : mg ("law" : Str) = some (.ref f)) (c : SaysY faL fnL tsL tfL ssL exL w h K) : LawAtS RL w K CX0 16 63 "_law_script" mg f h := by
  have ef := hfa.symm.trans (glo_ok X G (c.x.t.d.fact 116 (f := .glo "law")))
  cases ef
  obtain ⟨e0, ex⟩ := ba c.x.more
  obtain ⟨e1, ex⟩ := ba ex
  obtain ⟨e2, ex⟩ := ba ex
  obtain ⟨e3, ex⟩ := ba ex
  obtain ⟨e4, ex⟩ := ba ex
  obtain ⟨e5, e6⟩ := ba ex
  obtain ⟨es, en, hkd⟩ := c.x.t.tab 0 (t := (fun K => ga K "FORMS", ["round", "open", "valves", "start", "pause", "rank"]))
  obtain ⟨fdl, Fl⟩ := fun_of c (d := d_law) (by exact mem_fn 45 (d := d_law)) rfl rfl
  refine ⟨fdl, tfL.map (cT K), ((sp_law K (TTL K))), fun p hp => ?_, fun p hp => ?_, fun p hp => ?_, fun s u => Fl.bindsA (ps := ["_law_script"]) (fun _ _ _ _ _ _ us hl => match us, hl with | [_], _ => rfl) s [u] rfl, fun H a ns hl _ hT hS => ?_, fun base hKb hGb hTB => ?_⟩
  · obtain ⟨q, hq, rfl⟩ := List.mem_map.mp hp
    exact c.x.empty q hq
  · obtain ⟨q, hq, rfl⟩ := List.mem_map.mp hp
    exact c.x.out q hq
  · obtain ⟨q, hq, rfl⟩ := List.mem_map.mp hp
    exact PySem.W.codeHd_of_K X (c.x.hd q hq)
  · refine ⟨a, ns, rfl, hS, hl, fun p hp => ?_, fun _ => rfl⟩
    simp only [TTL, List.mem_cons, List.not_mem_nil, or_false] at hp
    rcases hp with rfl
    · exact TabS.nil (hT _ (List.mem_map.mpr ⟨("Garden", some "__init__"), by simp [tfL], rfl⟩))
  · skip
    have T : TopF w K mg := {
      z_len := free_ok X G (c.x.t.d.fact 0 (f := .free "len"))
      z_int := free_ok X G (c.x.t.d.fact 1 (f := .free "int"))
      z_str := free_ok X G (c.x.t.d.fact 2 (f := .free "str"))
      z_list := free_ok X G (c.x.t.d.fact 3 (f := .free "list"))
      z_range := free_ok X G (c.x.t.d.fact 4 (f := .free "range"))
      z_enumerate := free_ok X G (c.x.t.d.fact 5 (f := .free "enumerate"))
      z_isinstance := free_ok X G (c.x.t.d.fact 6 (f := .free "isinstance"))
      z_sorted := free_ok X G (c.x.t.d.fact 7 (f := .free "sorted"))
      z_abs := free_ok X G (c.x.t.d.fact 8 (f := .free "abs"))
      z_max := free_ok X G (c.x.t.d.fact 9 (f := .free "max"))
      z_min := free_ok X G (c.x.t.d.fact 10 (f := .free "min"))
      z_tuple := free_ok X G (c.x.t.d.fact 11 (f := .free "tuple"))
      z_zip := free_ok X G (c.x.t.d.fact 12 (f := .free "zip"))
      z_sum := free_ok X G (c.x.t.d.fact 13 (f := .free "sum"))
      z_divmod := free_ok X G (c.x.t.d.fact 14 (f := .free "divmod"))
      z_any := free_ok X G (c.x.t.d.fact 15 (f := .free "any"))
      z_all := free_ok X G (c.x.t.d.fact 16 (f := .free "all"))
      z_bool := free_ok X G (c.x.t.d.fact 17 (f := .free "bool"))
      g_MOST_TICKS := int_ok X G (c.x.t.d.fact 18 (f := .int "MOST_TICKS" 60))
      g_MOST_OPEN := int_ok X G (c.x.t.d.fact 19 (f := .int "MOST_OPEN" 9))
      g_MOST_VALVES := int_ok X G (c.x.t.d.fact 20 (f := .int "MOST_VALVES" 8))
      g_MOST_WATER := int_ok X G (c.x.t.d.fact 21 (f := .int "MOST_WATER" 30))
      g_MOST_STARTS := int_ok X G (c.x.t.d.fact 22 (f := .int "MOST_STARTS" 20))
      g_MOST_LETTERS := int_ok X G (c.x.t.d.fact 23 (f := .int "MOST_LETTERS" 8))
      g_MOST_DIGITS := int_ok X G (c.x.t.d.fact 24 (f := .int "MOST_DIGITS" 2))
      g_LETTERS := str_ok X G (c.x.t.d.fact 25 (f := .str "LETTERS" (SX.S letters)))
      g_DIGITS := str_ok X G (c.x.t.d.fact 26 (f := .str "DIGITS" (SX.S digits)))
      a_KEYWORDS := ga K "KEYWORDS"
      g_KEYWORDS := glo_ok X G (c.x.t.d.fact 27 (f := .glo "KEYWORDS"))
      a_HEAD := ga K "HEAD"
      g_HEAD := glo_ok X G (c.x.t.d.fact 28 (f := .glo "HEAD"))
      a_FORMS := ga K "FORMS"
      g_FORMS := glo_ok X G (c.x.t.d.fact 29 (f := .glo "FORMS"))
      t_HEAD := tupAt_ok e4
      t_KEYWORDS := tupAt_ok e3
      es := es
      en := en
      kd := hkd
      f_get := formsB_get e2
      f_miss := formsB_miss e2 }
    have K_Token : CToken K (ga K "Token") := { cl := cls_ok (c.x.t.d.fact 30 (f := .cls "Token")), n1 := noat_ok (c.x.t.d.fact 31 (f := .noat "Token" "kind")), n2 := noat_ok (c.x.t.d.fact 32 (f := .noat "Token" "text")), n3 := noat_ok (c.x.t.d.fact 33 (f := .noat "Token" "line")), n4 := noat_ok (c.x.t.d.fact 34 (f := .noat "Token" "column")) }
    have K_Statement : CStatement K (ga K "Statement") := { cl := cls_ok (c.x.t.d.fact 35 (f := .cls "Statement")), n1 := noat_ok (c.x.t.d.fact 36 (f := .noat "Statement" "keyword")), n2 := noat_ok (c.x.t.d.fact 37 (f := .noat "Statement" "names")), n3 := noat_ok (c.x.t.d.fact 38 (f := .noat "Statement" "numbers")) }
    have K_Parser : CParser K (ga K "Parser") := { cl := cls_ok (c.x.t.d.fact 39 (f := .cls "Parser")), n1 := noat_ok (c.x.t.d.fact 40 (f := .noat "Parser" "tokens")), n2 := noat_ok (c.x.t.d.fact 41 (f := .noat "Parser" "lines")), n3 := noat_ok (c.x.t.d.fact 42 (f := .noat "Parser" "taken")) }
    have K_Checker : CChecker K (ga K "Checker") := { cl := cls_ok (c.x.t.d.fact 43 (f := .cls "Checker")), n1 := noat_ok (c.x.t.d.fact 44 (f := .noat "Checker" "period")), n2 := noat_ok (c.x.t.d.fact 45 (f := .noat "Checker" "names")), n3 := noat_ok (c.x.t.d.fact 46 (f := .noat "Checker" "starts")), n4 := noat_ok (c.x.t.d.fact 47 (f := .noat "Checker" "ranks")) }
    have K_Garden : CGarden K (ga K "Garden") := { cl := cls_ok (c.x.t.d.fact 48 (f := .cls "Garden")), n1 := noat_ok (c.x.t.d.fact 49 (f := .noat "Garden" "period")), n2 := noat_ok (c.x.t.d.fact 50 (f := .noat "Garden" "limit")), n3 := noat_ok (c.x.t.d.fact 51 (f := .noat "Garden" "names")), n4 := noat_ok (c.x.t.d.fact 52 (f := .noat "Garden" "rank")), n5 := noat_ok (c.x.t.d.fact 53 (f := .noat "Garden" "starts")), n6 := noat_ok (c.x.t.d.fact 54 (f := .noat "Garden" "dry")), n7 := noat_ok (c.x.t.d.fact 55 (f := .noat "Garden" "requests")) }
    obtain ⟨su0, iC0, tI0, pl0⟩ := supB_ok (P := PR) (mg := mg) e0 super_out (free_ok X G (c.x.t.d.fact 56 (f := .free "super")))
    obtain ⟨oc0, od0, kV0, doc0, pm0, an0, ct0, osl0, lk0, hcd0⟩ := sup_fn (c.sup 0 (d := sup0)) pl0 (c.x.t.d.fact 57 (f := .code ("SyntaxFault", some "__init__") "SyntaxFault.__init__"))
    obtain ⟨su1, iC1, tI1, pl1⟩ := supB_ok (P := PR) (mg := mg) e1 super_out (free_ok X G (c.x.t.d.fact 56 (f := .free "super")))
    obtain ⟨oc1, od1, kV1, doc1, pm1, an1, ct1, osl1, lk1, hcd1⟩ := sup_fn (c.sup 1 (d := sup1)) pl1 (c.x.t.d.fact 58 (f := .code ("CheckFault", some "__init__") "CheckFault.__init__"))
    have TE : TErr PR w K mg base (ga K "SyntaxFault") (ga K "CheckFault") := {
      fS := _
      ccS := _
      cdS := _
      fdS := _
      syn := ⟨su0, iC0, tI0, ⟨oc0, od0, _, kV0, doc0, pm0, an0, ct0, osl0, rfl, lk0, hcd0⟩, .all fun us hl => match us, hl with | [_, _, _], _ => rfl, glo_ok X G (c.x.t.d.fact 59 (f := .glo "SyntaxFault"))⟩
      fC := _
      ccC := _
      cdC := _
      fdC := _
      chk := ⟨su1, iC1, tI1, ⟨oc1, od1, _, kV1, doc1, pm1, an1, ct1, osl1, rfl, lk1, hcd1⟩, .all fun us hl => match us, hl with | [_, _, _, _], _ => rfl, glo_ok X G (c.x.t.d.fact 60 (f := .glo "CheckFault"))⟩
      s1 := noat_ok (c.x.t.d.fact 61 (f := .noat "SyntaxFault" "line"))
      s2 := noat_ok (c.x.t.d.fact 62 (f := .noat "SyntaxFault" "column"))
      c1 := noat_ok (c.x.t.d.fact 63 (f := .noat "CheckFault" "reason"))
      c2 := noat_ok (c.x.t.d.fact 64 (f := .noat "CheckFault" "line"))
      c3 := noat_ok (c.x.t.d.fact 65 (f := .noat "CheckFault" "column")) }
    obtain ⟨fd__is_number, F__is_number⟩ := fun_of c (d := d__is_number) (by exact mem_fn 0 (d := d__is_number)) rfl rfl
    have D__is_number : DF PR w K mg base CX0 1 "_is_number" ["digits"] sp__is_number := ⟨_, _, ok__is_number (funD_fun F__is_number) T, glo_ok X G (c.x.t.d.fact 66 (f := .glo "_is_number")), F__is_number.kp, F__is_number.bindsN (ps := ["digits"]) (fun _ _ _ _ _ _ us hl => match us, hl with | [_], _ => rfl)⟩
    obtain ⟨fd__word_kind, F__word_kind⟩ := fun_of c (d := d__word_kind) (by exact mem_fn 1 (d := d__word_kind)) rfl rfl
    have D__word_kind : DF PR w K mg base CX0 1 "_word_kind" ["word"] sp__word_kind := ⟨_, _, ok__word_kind (funD_fun F__word_kind) T, glo_ok X G (c.x.t.d.fact 67 (f := .glo "_word_kind")), F__word_kind.kp, F__word_kind.bindsN (ps := ["word"]) (fun _ _ _ _ _ _ us hl => match us, hl with | [_], _ => rfl)⟩
    obtain ⟨fd__run_of, F__run_of⟩ := fun_of c (d := d__run_of) (by exact mem_fn 2 (d := d__run_of)) rfl rfl
    have D__run_of : DF PR w K mg base CX0 1 "_run_of" ["allowed", "row", "column"] sp__run_of := ⟨_, _, ok__run_of (funD_fun F__run_of) T, glo_ok X G (c.x.t.d.fact 68 (f := .glo "_run_of")), F__run_of.kp, F__run_of.bindsN (ps := ["allowed", "row", "column"]) (fun _ _ _ _ _ _ us hl => match us, hl with | [_, _, _], _ => rfl)⟩
    obtain ⟨fd_Token___init__, F_Token___init__⟩ := fun_of c (d := d_Token___init__) (by exact mem_fn 3 (d := d_Token___init__)) rfl rfl
    have D_Token : DC PR w K mg base CX0 1 (ga K "Token") "Token" ["self", "kind", "text", "line", "column"] (sp_Token___init__ (ga K "Token")) := ⟨_, _, ok_Token___init__ (C := ga K "Token") (funD_fun F_Token___init__) K_Token, mkr_ok (c.x.t.d.fact 69 (f := .mkr "Token")), glo_ok X G (c.x.t.d.fact 70 (f := .glo "Token")), F_Token___init__.bindsN (ps := ["self", "kind", "text", "line", "column"]) (fun _ _ _ _ _ _ us hl => match us, hl with | [_, _, _, _, _], _ => rfl), K_Token.cl⟩
    obtain ⟨fd__token_at, F__token_at⟩ := fun_of c (d := d__token_at) (by exact mem_fn 4 (d := d__token_at)) rfl rfl
    have D__token_at : DF PR w K mg base (L2.CX PR w) 6 "_token_at" ["row", "line", "column"] (sp__token_at (ga K "Token") (ga K "SyntaxFault")) := ⟨_, _, ok__token_at (C := ga K "Token") (CS := ga K "SyntaxFault") (CC := ga K "CheckFault") (funD_fun F__token_at) T TE D_Token D__run_of D__word_kind D__is_number, glo_ok X G (c.x.t.d.fact 71 (f := .glo "_token_at")), F__token_at.kp, F__token_at.bindsN (ps := ["row", "line", "column"]) (fun _ _ _ _ _ _ us hl => match us, hl with | [_, _, _], _ => rfl)⟩
    obtain ⟨fd__row_tokens, F__row_tokens⟩ := fun_of c (d := d__row_tokens) (by exact mem_fn 5 (d := d__row_tokens)) rfl rfl
    have D__row_tokens : DF PR w K mg base (L2.CX PR w) 7 "_row_tokens" ["row", "line"] (sp__row_tokens (ga K "Token") (ga K "SyntaxFault")) := ⟨_, _, ok__row_tokens (C := ga K "Token") (CS := ga K "SyntaxFault") (CC := ga K "CheckFault") (funD_fun F__row_tokens) T K_Token D__token_at, glo_ok X G (c.x.t.d.fact 72 (f := .glo "_row_tokens")), F__row_tokens.kp, F__row_tokens.bindsN (ps := ["row", "line"]) (fun _ _ _ _ _ _ us hl => match us, hl with | [_, _], _ => rfl)⟩
    obtain ⟨fd_count_lines, F_count_lines⟩ := fun_of c (d := d_count_lines) (by exact mem_fn 6 (d := d_count_lines)) rfl rfl
    have D_count_lines : DF PR w K mg base CX0 1 "count_lines" ["plan"] sp_count_lines := ⟨_, _, ok_count_lines (funD_fun F_count_lines), glo_ok X G (c.x.t.d.fact 73 (f := .glo "count_lines")), F_count_lines.kp, F_count_lines.bindsN (ps := ["plan"]) (fun _ _ _ _ _ _ us hl => match us, hl with | [_], _ => rfl)⟩
    obtain ⟨fd_read_tokens, F_read_tokens⟩ := fun_of c (d := d_read_tokens) (by exact mem_fn 7 (d := d_read_tokens)) rfl rfl
    have D_read_tokens : DF PR w K mg base (L2.CX PR w) 8 "read_tokens" ["plan"] (sp_read_tokens (ga K "Token") (ga K "SyntaxFault")) := ⟨_, _, ok_read_tokens (C := ga K "Token") (CS := ga K "SyntaxFault") (CC := ga K "CheckFault") (funD_fun F_read_tokens) T K_Token TE D__row_tokens, glo_ok X G (c.x.t.d.fact 74 (f := .glo "read_tokens")), F_read_tokens.kp, F_read_tokens.bindsN (ps := ["plan"]) (fun _ _ _ _ _ _ us hl => match us, hl with | [_], _ => rfl)⟩
    obtain ⟨fd_Statement___init__, F_Statement___init__⟩ := fun_of c (d := d_Statement___init__) (by exact mem_fn 8 (d := d_Statement___init__)) rfl rfl
    have D_Statement : DC PR w K mg base CX0 1 (ga K "Statement") "Statement" ["self", "keyword"] (sp_Statement___init__ (ga K "Statement")) := ⟨_, _, ok_Statement___init__ (C := ga K "Statement") (funD_fun F_Statement___init__) K_Statement, mkr_ok (c.x.t.d.fact 75 (f := .mkr "Statement")), glo_ok X G (c.x.t.d.fact 76 (f := .glo "Statement")), F_Statement___init__.bindsN (ps := ["self", "keyword"]) (fun _ _ _ _ _ _ us hl => match us, hl with | [_, _], _ => rfl), K_Statement.cl⟩
    obtain ⟨fd_Parser_ahead, F_Parser_ahead⟩ := fun_of c (d := d_Parser_ahead) (by exact mem_fn 9 (d := d_Parser_ahead)) rfl rfl
    have D_Parser_ahead : DM PR w K mg base CX0 1 (ga K "Parser") "ahead" ["self"] (sp_Parser_ahead (ga K "Token") (ga K "Parser")) := ⟨_, _, ok_Parser_ahead (C := ga K "Token") (CP := ga K "Parser") (funD_fun F_Parser_ahead) T K_Token K_Parser, meth_ok (c.x.t.d.fact 77 (f := .meth "Parser" "ahead")), F_Parser_ahead.bindsN (ps := ["self"]) (fun _ _ _ _ _ _ us hl => match us, hl with | [_], _ => rfl)⟩
    obtain ⟨fd_Parser_refuse, F_Parser_refuse⟩ := fun_of c (d := d_Parser_refuse) (by exact mem_fn 10 (d := d_Parser_refuse)) rfl rfl
    have D_Parser_refuse : DM PR w K mg base (L2.CX PR w) 6 (ga K "Parser") "refuse" ["self"] (sp_Parser_refuse (ga K "Token") (ga K "Parser") (ga K "SyntaxFault")) := ⟨_, _, ok_Parser_refuse (C := ga K "Token") (CP := ga K "Parser") (CS := ga K "SyntaxFault") (CC := ga K "CheckFault") (funD_fun F_Parser_refuse) T TE K_Token K_Parser, meth_ok (c.x.t.d.fact 78 (f := .meth "Parser" "refuse")), F_Parser_refuse.bindsN (ps := ["self"]) (fun _ _ _ _ _ _ us hl => match us, hl with | [_], _ => rfl)⟩
    obtain ⟨fd_Parser_take, F_Parser_take⟩ := fun_of c (d := d_Parser_take) (by exact mem_fn 11 (d := d_Parser_take)) rfl rfl
    have D_Parser_take : DM PR w K mg base (L2.CX PR w) 7 (ga K "Parser") "take" ["self", "kind"] (sp_Parser_take (ga K "Token") (ga K "Parser") (ga K "SyntaxFault")) := ⟨_, _, ok_Parser_take (C := ga K "Token") (CP := ga K "Parser") (CS := ga K "SyntaxFault") (CC := ga K "CheckFault") (funD_fun F_Parser_take) T K_Token K_Parser D_Parser_ahead D_Parser_refuse, meth_ok (c.x.t.d.fact 79 (f := .meth "Parser" "take")), F_Parser_take.bindsN (ps := ["self", "kind"]) (fun _ _ _ _ _ _ us hl => match us, hl with | [_, _], _ => rfl)⟩
    obtain ⟨fd_Parser_take_names, F_Parser_take_names⟩ := fun_of c (d := d_Parser_take_names) (by exact mem_fn 12 (d := d_Parser_take_names)) rfl rfl
    have D_Parser_take_names : DM PR w K mg base (L2.CX PR w) 8 (ga K "Parser") "take_names" ["self"] (sp_Parser_take_names (ga K "Token") (ga K "Parser") (ga K "SyntaxFault")) := ⟨_, _, ok_Parser_take_names (C := ga K "Token") (CP := ga K "Parser") (CS := ga K "SyntaxFault") (CC := ga K "CheckFault") (funD_fun F_Parser_take_names) T K_Token K_Parser D_Parser_ahead D_Parser_take, meth_ok (c.x.t.d.fact 80 (f := .meth "Parser" "take_names")), F_Parser_take_names.bindsN (ps := ["self"]) (fun _ _ _ _ _ _ us hl => match us, hl with | [_], _ => rfl)⟩
    obtain ⟨fd_Parser_take_statement, F_Parser_take_statement⟩ := fun_of c (d := d_Parser_take_statement) (by exact mem_fn 13 (d := d_Parser_take_statement)) rfl rfl
    have D_Parser_take_statement : DM PR w K mg base (L2.CX PR w) 10 (ga K "Parser") "take_statement" ["self", "word"] (sp_Parser_take_statement (ga K "Token") (ga K "Statement") (ga K "Parser") (ga K "SyntaxFault")) := ⟨_, _, ok_Parser_take_statement (C := ga K "Token") (CT := ga K "Statement") (CP := ga K "Parser") (CS := ga K "SyntaxFault") (CC := ga K "CheckFault") (funD_fun F_Parser_take_statement) T K_Token K_Parser K_Statement D_Statement D_Parser_take D_Parser_take_names, meth_ok (c.x.t.d.fact 81 (f := .meth "Parser" "take_statement")), F_Parser_take_statement.bindsN (ps := ["self", "word"]) (fun _ _ _ _ _ _ us hl => match us, hl with | [_, _], _ => rfl)⟩
    obtain ⟨fd_Parser___init__, F_Parser___init__⟩ := fun_of c (d := d_Parser___init__) (by exact mem_fn 14 (d := d_Parser___init__)) rfl rfl
    have D_Parser : DC PR w K mg base (L2.CX PR w) 9 (ga K "Parser") "Parser" ["self", "plan"] (sp_Parser___init__ (ga K "Token") (ga K "Parser") (ga K "SyntaxFault")) := ⟨_, _, ok_Parser___init__ (C := ga K "Token") (CP := ga K "Parser") (CS := ga K "SyntaxFault") (CC := ga K "CheckFault") (funD_fun F_Parser___init__) K_Parser D_read_tokens D_count_lines, mkr_ok (c.x.t.d.fact 82 (f := .mkr "Parser")), glo_ok X G (c.x.t.d.fact 83 (f := .glo "Parser")), F_Parser___init__.bindsN (ps := ["self", "plan"]) (fun _ _ _ _ _ _ us hl => match us, hl with | [_, _], _ => rfl), K_Parser.cl⟩
    obtain ⟨fd_parse_plan, F_parse_plan⟩ := fun_of c (d := d_parse_plan) (by exact mem_fn 15 (d := d_parse_plan)) rfl rfl
    have D_parse_plan : DF PR w K mg base (L2.CX PR w) 12 "parse_plan" ["plan"] (sp_parse_plan (ga K "Token") (ga K "Statement") (ga K "SyntaxFault")) := ⟨_, _, ok_parse_plan (C := ga K "Token") (CT := ga K "Statement") (CP := ga K "Parser") (CS := ga K "SyntaxFault") (CC := ga K "CheckFault") (funD_fun F_parse_plan) T K_Parser D_Parser D_Parser_ahead D_Parser_refuse D_Parser_take_statement, glo_ok X G (c.x.t.d.fact 84 (f := .glo "parse_plan")), F_parse_plan.kp, F_parse_plan.bindsN (ps := ["plan"]) (fun _ _ _ _ _ _ us hl => match us, hl with | [_], _ => rfl)⟩
    obtain ⟨fd__limited, F__limited⟩ := fun_of c (d := d__limited) (by exact mem_fn 16 (d := d__limited)) rfl rfl
    have D__limited : DF PR w K mg base (L2.CX PR w) 6 "_limited" ["token", "low", "high", "reason"] (sp__limited (ga K "Token") (ga K "CheckFault")) := ⟨_, _, ok__limited (C := ga K "Token") (CS := ga K "SyntaxFault") (CC := ga K "CheckFault") (funD_fun F__limited) T TE K_Token, glo_ok X G (c.x.t.d.fact 85 (f := .glo "_limited")), F__limited.kp, F__limited.bindsN (ps := ["token", "low", "high", "reason"]) (fun _ _ _ _ _ _ us hl => match us, hl with | [_, _, _, _], _ => rfl)⟩
    obtain ⟨fd_Checker___init__, F_Checker___init__⟩ := fun_of c (d := d_Checker___init__) (by exact mem_fn 17 (d := d_Checker___init__)) rfl rfl
    have D_Checker : DC PR w K mg base CX0 1 (ga K "Checker") "Checker" ["self"] (sp_Checker___init__ (ga K "Checker")) := ⟨_, _, ok_Checker___init__ (CK := ga K "Checker") (funD_fun F_Checker___init__) K_Checker, mkr_ok (c.x.t.d.fact 86 (f := .mkr "Checker")), glo_ok X G (c.x.t.d.fact 87 (f := .glo "Checker")), F_Checker___init__.bindsN (ps := ["self"]) (fun _ _ _ _ _ _ us hl => match us, hl with | [_], _ => rfl), K_Checker.cl⟩
    obtain ⟨fd_Checker_check_known, F_Checker_check_known⟩ := fun_of c (d := d_Checker_check_known) (by exact mem_fn 18 (d := d_Checker_check_known)) rfl rfl
    have D_Checker_check_known : DM PR w K mg base (L2.CX PR w) 6 (ga K "Checker") "check_known" ["self", "token"] (sp_Checker_check_known (ga K "Token") (ga K "Checker") (ga K "CheckFault")) := ⟨_, _, ok_Checker_check_known (C := ga K "Token") (CK := ga K "Checker") (CS := ga K "SyntaxFault") (CC := ga K "CheckFault") (funD_fun F_Checker_check_known) TE K_Token K_Checker, meth_ok (c.x.t.d.fact 88 (f := .meth "Checker" "check_known")), F_Checker_check_known.bindsN (ps := ["self", "token"]) (fun _ _ _ _ _ _ us hl => match us, hl with | [_, _], _ => rfl)⟩
    obtain ⟨fd_Checker_check_valves, F_Checker_check_valves⟩ := fun_of c (d := d_Checker_check_valves) (by exact mem_fn 19 (d := d_Checker_check_valves)) rfl rfl
    have D_Checker_check_valves : DM PR w K mg base (L2.CX PR w) 6 (ga K "Checker") "check_valves" ["self", "statement"] (spChk (ga K "Token") (ga K "Statement") (ga K "Checker") (ga K "CheckFault") valvesS (fun _ => True)) := ⟨_, _, ok_Checker_check_valves (C := ga K "Token") (CT := ga K "Statement") (CK := ga K "Checker") (CS := ga K "SyntaxFault") (CC := ga K "CheckFault") (funD_fun F_Checker_check_valves) T TE K_Token K_Checker K_Statement, meth_ok (c.x.t.d.fact 89 (f := .meth "Checker" "check_valves")), F_Checker_check_valves.bindsN (ps := ["self", "statement"]) (fun _ _ _ _ _ _ us hl => match us, hl with | [_, _], _ => rfl)⟩
    obtain ⟨fd_Checker_check_start, F_Checker_check_start⟩ := fun_of c (d := d_Checker_check_start) (by exact mem_fn 20 (d := d_Checker_check_start)) rfl rfl
    have D_Checker_check_start : DM PR w K mg base (L2.CX PR w) 8 (ga K "Checker") "check_start" ["self", "statement"] (spChk (ga K "Token") (ga K "Statement") (ga K "Checker") (ga K "CheckFault") startC (fun s => s.key.text = startK)) := ⟨_, _, ok_Checker_check_start (C := ga K "Token") (CT := ga K "Statement") (CK := ga K "Checker") (CS := ga K "SyntaxFault") (CC := ga K "CheckFault") (funD_fun F_Checker_check_start) T TE K_Token K_Checker K_Statement D_Checker_check_known D__limited, meth_ok (c.x.t.d.fact 90 (f := .meth "Checker" "check_start")), F_Checker_check_start.bindsN (ps := ["self", "statement"]) (fun _ _ _ _ _ _ us hl => match us, hl with | [_, _], _ => rfl)⟩
    obtain ⟨fd_Checker_check_pause, F_Checker_check_pause⟩ := fun_of c (d := d_Checker_check_pause) (by exact mem_fn 21 (d := d_Checker_check_pause)) rfl rfl
    have D_Checker_check_pause : DM PR w K mg base (L2.CX PR w) 8 (ga K "Checker") "check_pause" ["self", "statement"] (spChk (ga K "Token") (ga K "Statement") (ga K "Checker") (ga K "CheckFault") pauseC (fun s => s.key.text = pauseK)) := ⟨_, _, ok_Checker_check_pause (C := ga K "Token") (CT := ga K "Statement") (CK := ga K "Checker") (CS := ga K "SyntaxFault") (CC := ga K "CheckFault") (funD_fun F_Checker_check_pause) K_Token K_Checker K_Statement D__limited, meth_ok (c.x.t.d.fact 91 (f := .meth "Checker" "check_pause")), F_Checker_check_pause.bindsN (ps := ["self", "statement"]) (fun _ _ _ _ _ _ us hl => match us, hl with | [_, _], _ => rfl)⟩
    obtain ⟨fd_Checker_check_rank, F_Checker_check_rank⟩ := fun_of c (d := d_Checker_check_rank) (by exact mem_fn 22 (d := d_Checker_check_rank)) rfl rfl
    have D_Checker_check_rank : DM PR w K mg base (L2.CX PR w) 8 (ga K "Checker") "check_rank" ["self", "statement"] (spChk (ga K "Token") (ga K "Statement") (ga K "Checker") (ga K "CheckFault") rankS (fun s => s.key.text = rankK)) := ⟨_, _, ok_Checker_check_rank (C := ga K "Token") (CT := ga K "Statement") (CK := ga K "Checker") (CS := ga K "SyntaxFault") (CC := ga K "CheckFault") (funD_fun F_Checker_check_rank) T TE K_Token K_Checker K_Statement D_Checker_check_known, meth_ok (c.x.t.d.fact 92 (f := .meth "Checker" "check_rank")), F_Checker_check_rank.bindsN (ps := ["self", "statement"]) (fun _ _ _ _ _ _ us hl => match us, hl with | [_, _], _ => rfl)⟩
    obtain ⟨fd_Checker_check, F_Checker_check⟩ := fun_of c (d := d_Checker_check) (by exact mem_fn 23 (d := d_Checker_check)) rfl rfl
    have D_Checker_check : DM PR w K mg base (L2.CX PR w) 10 (ga K "Checker") "check" ["self", "statement"] (spChk (ga K "Token") (ga K "Statement") (ga K "Checker") (ga K "CheckFault") checkC (fun s => s.key.text ∈ formsL.map (·.1))) := ⟨_, _, ok_Checker_check (C := ga K "Token") (CT := ga K "Statement") (CK := ga K "Checker") (CS := ga K "SyntaxFault") (CC := ga K "CheckFault") (funD_fun F_Checker_check) T K_Token K_Checker K_Statement D__limited D_Checker_check_valves D_Checker_check_start D_Checker_check_pause D_Checker_check_rank, meth_ok (c.x.t.d.fact 93 (f := .meth "Checker" "check")), F_Checker_check.bindsN (ps := ["self", "statement"]) (fun _ _ _ _ _ _ us hl => match us, hl with | [_, _], _ => rfl)⟩
    obtain ⟨fd_check_statements, F_check_statements⟩ := fun_of c (d := d_check_statements) (by exact mem_fn 24 (d := d_check_statements)) rfl rfl
    have D_check_statements : DF PR w K mg base (L2.CX PR w) 11 "check_statements" ["statements"] (sp_check_statements (ga K "Token") (ga K "Statement") (ga K "CheckFault")) := ⟨_, _, ok_check_statements (C := ga K "Token") (CT := ga K "Statement") (CK := ga K "Checker") (CS := ga K "SyntaxFault") (CC := ga K "CheckFault") (funD_fun F_check_statements) K_Checker D_Checker D_Checker_check, glo_ok X G (c.x.t.d.fact 94 (f := .glo "check_statements")), F_check_statements.kp, F_check_statements.bindsN (ps := ["statements"]) (fun _ _ _ _ _ _ us hl => match us, hl with | [_], _ => rfl)⟩
    obtain ⟨fd__starts, F__starts⟩ := fun_of c (d := d__starts) (by exact mem_fn 25 (d := d__starts)) rfl rfl
    have D__starts : DF PR w K mg base CX0 1 "_starts" ["statements", "names"] (sp__starts (ga K "Token") (ga K "Statement")) := ⟨_, _, ok__starts (C := ga K "Token") (CT := ga K "Statement") (funD_fun F__starts) T K_Token K_Statement, glo_ok X G (c.x.t.d.fact 95 (f := .glo "_starts")), F__starts.kp, F__starts.bindsN (ps := ["statements", "names"]) (fun _ _ _ _ _ _ us hl => match us, hl with | [_, _], _ => rfl)⟩
    obtain ⟨fd__dry, F__dry⟩ := fun_of c (d := d__dry) (by exact mem_fn 26 (d := d__dry)) rfl rfl
    have D__dry : DF PR w K mg base CX0 1 "_dry" ["statements", "period"] (sp__dry (ga K "Token") (ga K "Statement")) := ⟨_, _, ok__dry (C := ga K "Token") (CT := ga K "Statement") (funD_fun F__dry) T K_Token K_Statement, glo_ok X G (c.x.t.d.fact 96 (f := .glo "_dry")), F__dry.kp, F__dry.bindsN (ps := ["statements", "period"]) (fun _ _ _ _ _ _ us hl => match us, hl with | [_, _], _ => rfl)⟩
    obtain ⟨fd__rank, F__rank⟩ := fun_of c (d := d__rank) (by exact mem_fn 27 (d := d__rank)) rfl rfl
    have D__rank : DF PR w K mg base CX0 1 "_rank" ["statements", "names"] (sp__rank (ga K "Token") (ga K "Statement")) := ⟨_, _, ok__rank (C := ga K "Token") (CT := ga K "Statement") (funD_fun F__rank) T K_Token K_Statement, glo_ok X G (c.x.t.d.fact 97 (f := .glo "_rank")), F__rank.kp, F__rank.bindsN (ps := ["statements", "names"]) (fun _ _ _ _ _ _ us hl => match us, hl with | [_, _], _ => rfl)⟩
    obtain ⟨fd_Garden___init__, F_Garden___init__⟩ := fun_of c (d := d_Garden___init__) (by exact mem_fn 28 (d := d_Garden___init__)) rfl rfl
    have D_Garden : DC PR w K mg base CX0 4 (ga K "Garden") "Garden" ["self", "period", "limit", "names", "rank", "starts", "dry"] (sp_Garden___init__ (ga K "Garden") (TTL K)) := ⟨_, _, ok_Garden___init__ (CG := ga K "Garden") ⟨funD_code F_Garden___init__⟩ T K_Garden (hTB _ (List.mem_map.mpr ⟨("Garden", some "__init__"), by simp [tfL], rfl⟩)) (tt_G) (tt_Gu e6), mkr_ok (c.x.t.d.fact 98 (f := .mkr "Garden")), glo_ok X G (c.x.t.d.fact 99 (f := .glo "Garden")), F_Garden___init__.bindsN (ps := ["self", "period", "limit", "names", "rank", "starts", "dry"]) (fun _ _ _ _ _ _ us hl => match us, hl with | [_, _, _, _, _, _, _], _ => rfl), K_Garden.cl⟩
    obtain ⟨fd__build_garden, F__build_garden⟩ := fun_of c (d := d__build_garden) (by exact mem_fn 29 (d := d__build_garden)) rfl rfl
    have D__build_garden : DF PR w K mg base CX0 6 "_build_garden" ["statements"] (sp__build_garden (ga K "Garden") (ga K "Token") (ga K "Statement") (TTL K)) := ⟨_, _, ok__build_garden (C := ga K "Token") (CT := ga K "Statement") (CG := ga K "Garden") (funD_fun F__build_garden) T K_Token K_Statement D_Garden D__rank D__starts D__dry, glo_ok X G (c.x.t.d.fact 100 (f := .glo "_build_garden")), F__build_garden.kp, F__build_garden.bindsN (ps := ["statements"]) (fun _ _ _ _ _ _ us hl => match us, hl with | [_], _ => rfl)⟩
    obtain ⟨fd_read_plans, F_read_plans⟩ := fun_of c (d := d_read_plans) (by exact mem_fn 30 (d := d_read_plans)) rfl rfl
    have D_read_plans : DF PR w K mg base (L2.CX PR w) 13 "read_plans" ["plans"] (sp_read_plans (ga K "Garden") (ga K "SyntaxFault") (ga K "CheckFault") (TTL K)) := ⟨_, _, ok_read_plans (C := ga K "Token") (CT := ga K "Statement") (CS := ga K "SyntaxFault") (CC := ga K "CheckFault") (CG := ga K "Garden") (funD_fun F_read_plans) D_parse_plan D_check_statements D__build_garden, glo_ok X G (c.x.t.d.fact 101 (f := .glo "read_plans")), F_read_plans.kp, F_read_plans.bindsN (ps := ["plans"]) (fun _ _ _ _ _ _ us hl => match us, hl with | [_], _ => rfl)⟩
    obtain ⟨fd_read_plan, F_read_plan⟩ := fun_of c (d := d_read_plan) (by exact mem_fn 31 (d := d_read_plan)) rfl rfl
    have D_read_plan : DF PR w K mg base (L2.CX PR w) 14 "read_plan" ["plan"] (sp_read_plan (ga K "Garden") (ga K "SyntaxFault") (ga K "CheckFault") (TTL K)) := ⟨_, _, ok_read_plan (CS := ga K "SyntaxFault") (CC := ga K "CheckFault") (CG := ga K "Garden") (funD_fun F_read_plan) D_read_plans, glo_ok X G (c.x.t.d.fact 102 (f := .glo "read_plan")), F_read_plan.kp, F_read_plan.bindsN (ps := ["plan"]) (fun _ _ _ _ _ _ us hl => match us, hl with | [_], _ => rfl)⟩
    obtain ⟨fd__line, F__line⟩ := fun_of c (d := d__line) (by exact mem_fn 32 (d := d__line)) rfl rfl
    have D__line : DF PR w K mg base CX0 1 "_line" ["keyword", "words"] sp__line := ⟨_, _, ok__line (funD_fun F__line) T, glo_ok X G (c.x.t.d.fact 103 (f := .glo "_line")), F__line.kp, F__line.bindsN (ps := ["keyword", "words"]) (fun _ _ _ _ _ _ us hl => match us, hl with | [_, _], _ => rfl)⟩
    obtain ⟨fd_dry_runs, F_dry_runs⟩ := fun_of c (d := d_dry_runs) (by exact mem_fn 33 (d := d_dry_runs)) rfl rfl
    have D_dry_runs : DF PR w K mg base CX0 1 "dry_runs" ["garden"] (sp_dry_runs (ga K "Garden")) := ⟨_, _, ok_dry_runs (CG := ga K "Garden") (funD_fun F_dry_runs) T K_Garden, glo_ok X G (c.x.t.d.fact 104 (f := .glo "dry_runs")), F_dry_runs.kp, F_dry_runs.bindsN (ps := ["garden"]) (fun _ _ _ _ _ _ us hl => match us, hl with | [_], _ => rfl)⟩
    obtain ⟨fd_plan_text, F_plan_text⟩ := fun_of c (d := d_plan_text) (by exact mem_fn 34 (d := d_plan_text)) rfl rfl
    have D_plan_text : DF PR w K mg base CX0 2 "plan_text" ["garden"] (sp_plan_text (ga K "Garden")) := ⟨_, _, ok_plan_text (CG := ga K "Garden") (funD_fun F_plan_text) T K_Garden D__line D_dry_runs, glo_ok X G (c.x.t.d.fact 105 (f := .glo "plan_text")), F_plan_text.kp, F_plan_text.bindsN (ps := ["garden"]) (fun _ _ _ _ _ _ us hl => match us, hl with | [_], _ => rfl)⟩
    obtain ⟨fd_format_plan, F_format_plan⟩ := fun_of c (d := d_format_plan) (by exact mem_fn 35 (d := d_format_plan)) rfl rfl
    have D_format_plan : DF PR w K mg base (L2.CX PR w) 15 "format_plan" ["plan"] (sp_format_plan (ga K "SyntaxFault") (ga K "CheckFault") (TTL K)) := ⟨_, _, ok_format_plan (CS := ga K "SyntaxFault") (CC := ga K "CheckFault") (CG := ga K "Garden") (funD_fun F_format_plan) D_read_plan D_plan_text, glo_ok X G (c.x.t.d.fact 106 (f := .glo "format_plan")), F_format_plan.kp, F_format_plan.bindsN (ps := ["plan"]) (fun _ _ _ _ _ _ us hl => match us, hl with | [_], _ => rfl)⟩
    obtain ⟨fd__law_below, F__law_below⟩ := fun_of c (d := d__law_below) (by exact mem_fn 36 (d := d__law_below)) rfl rfl
    have D__law_below : DF PR w K mg base CX0 1 "_law_below" ["_law_d", "_law_limit"] sp__law_below := ⟨_, _, ok__law_below (funD_fun F__law_below) T, glo_ok X G (c.x.t.d.fact 107 (f := .glo "_law_below")), F__law_below.kp, F__law_below.bindsN (ps := ["_law_d", "_law_limit"]) (fun _ _ _ _ _ _ us hl => match us, hl with | [_, _], _ => rfl)⟩
    obtain ⟨fd__law_random, F__law_random⟩ := fun_of c (d := d__law_random) (by exact mem_fn 37 (d := d__law_random)) rfl rfl
    have D__law_random : DF PR w K mg base CX0 1 "_law_random" ["_law_script", "_law_salt"] (sp__law_random K) := ⟨_, _, ok__law_random (funD_fun F__law_random) T, glo_ok X G (c.x.t.d.fact 108 (f := .glo "_law_random")), F__law_random.kp, F__law_random.bindsN (ps := ["_law_script", "_law_salt"]) (fun _ _ _ _ _ _ us hl => match us, hl with | [_, _], _ => rfl)⟩
    obtain ⟨fd__law_shuffled, F__law_shuffled⟩ := fun_of c (d := d__law_shuffled) (by exact mem_fn 38 (d := d__law_shuffled)) rfl rfl
    have D__law_shuffled : DF PR w K mg base CX0 2 "_law_shuffled" ["_law_d", "_law_items"] (sp__law_shuffled K) := ⟨_, _, ok__law_shuffled (funD_fun F__law_shuffled) T D__law_below, glo_ok X G (c.x.t.d.fact 109 (f := .glo "_law_shuffled")), F__law_shuffled.kp, F__law_shuffled.bindsN (ps := ["_law_d", "_law_items"]) (fun _ _ _ _ _ _ us hl => match us, hl with | [_, _], _ => rfl)⟩
    obtain ⟨fd__law_runs, F__law_runs⟩ := fun_of c (d := d__law_runs) (by exact mem_fn 39 (d := d__law_runs)) rfl rfl
    have D__law_runs : DF PR w K mg base CX0 1 "_law_runs" ["_law_paused"] sp__law_runs := ⟨_, _, ok__law_runs (funD_fun F__law_runs), glo_ok X G (c.x.t.d.fact 110 (f := .glo "_law_runs")), F__law_runs.kp, F__law_runs.bindsN (ps := ["_law_paused"]) (fun _ _ _ _ _ _ us hl => match us, hl with | [_], _ => rfl)⟩
    obtain ⟨fd__law_text, F__law_text⟩ := fun_of c (d := d__law_text) (by exact mem_fn 40 (d := d__law_text)) rfl rfl
    have D__law_text : DF PR w K mg base CX0 2 "_law_text" ["_law_plan"] sp__law_text := ⟨_, _, ok__law_text (funD_fun F__law_text) T D__law_runs, glo_ok X G (c.x.t.d.fact 111 (f := .glo "_law_text")), F__law_text.kp, F__law_text.bindsN (ps := ["_law_plan"]) (fun _ _ _ _ _ _ us hl => match us, hl with | [_], _ => rfl)⟩
    obtain ⟨fd__law_wide, F__law_wide⟩ := fun_of c (d := d__law_wide) (by exact mem_fn 41 (d := d__law_wide)) rfl rfl
    have D__law_wide : DF PR w K mg base CX0 3 "_law_wide" ["_law_d", "_law_most"] sp__law_wide := ⟨_, _, ok__law_wide (funD_fun F__law_wide) T D__law_below D__law_shuffled, glo_ok X G (c.x.t.d.fact 112 (f := .glo "_law_wide")), F__law_wide.kp, F__law_wide.bindsN (ps := ["_law_d", "_law_most"]) (fun _ _ _ _ _ _ us hl => match us, hl with | [_, _], _ => rfl)⟩
    obtain ⟨fd__law_loosened, F__law_loosened⟩ := fun_of c (d := d__law_loosened) (by exact mem_fn 42 (d := d__law_loosened)) rfl rfl
    have D__law_loosened : DF PR w K mg base CX0 3 "_law_loosened" ["_law_d", "_law_plan", "_law_lines"] sp__law_loosened := ⟨_, _, ok__law_loosened (funD_fun F__law_loosened) T D__law_below D__law_shuffled, glo_ok X G (c.x.t.d.fact 113 (f := .glo "_law_loosened")), F__law_loosened.kp, F__law_loosened.bindsN (ps := ["_law_d", "_law_plan", "_law_lines"]) (fun _ _ _ _ _ _ us hl => match us, hl with | [_, _, _], _ => rfl)⟩
    obtain ⟨fd__law_equal, F__law_equal⟩ := fun_of c (d := d__law_equal) (by exact mem_fn 43 (d := d__law_equal)) rfl rfl
    have D__law_equal : DF PR w K mg base CX0 4 "_law_equal" ["_law_actual", "_law_expected"] (spEq 4) := ⟨_, _, ok__law_equal (funD_fun F__law_equal) T (glo_ok X G (c.x.t.d.fact 114 (f := .glo "_law_equal"))) F__law_equal.kp (F__law_equal.bindsN (ps := ["_law_actual", "_law_expected"]) (fun _ _ _ _ _ _ us hl => match us, hl with | [_, _], _ => rfl)), glo_ok X G (c.x.t.d.fact 114 (f := .glo "_law_equal")), F__law_equal.kp, F__law_equal.bindsN (ps := ["_law_actual", "_law_expected"]) (fun _ _ _ _ _ _ us hl => match us, hl with | [_, _], _ => rfl)⟩
    obtain ⟨fd_valves, F_valves⟩ := fun_of c (d := d_valves) (by exact mem_fn 44 (d := d_valves)) rfl rfl
    have D_valves : DF PR w K mg base (L2.CX PR w) 15 "valves" ["plan"] (sp_valves (ga K "SyntaxFault") (ga K "CheckFault") (TTL K)) := ⟨_, _, ok_valves (CS := ga K "SyntaxFault") (CC := ga K "CheckFault") (CG := ga K "Garden") (funD_fun F_valves) T K_Garden D_read_plan, glo_ok X G (c.x.t.d.fact 115 (f := .glo "valves")), F_valves.kp, F_valves.bindsN (ps := ["plan"]) (fun _ _ _ _ _ _ us hl => match us, hl with | [_], _ => rfl)⟩
    have F_law := Fl
    exact ok_law (CS := ga K "SyntaxFault") (CC := ga K "CheckFault") (funD_fun F_law) T D__law_random D__law_below D__law_wide D__law_text D__law_loosened D__law_equal D_format_plan D_valves
end Wv
end WvH2_
section WvH3_
set_option Elab.async false
set_option linter.all false
set_option maxRecDepth 100000

set_option maxHeartbeats 0
namespace Wv
open PySem PySem.Spec PySem.W PySem.Calls PyProof.Rows L2 He LamX
end Wv
open PySem PySem.W PySem.Calls PyProof.Rows
theorem PySem.Challenge.cw_watervalves_k03_canonical_plans_holds : PySem.Challenge.rw_watervalves_k03_canonical_plans.Holds := by
  w_on; o_law
  refine HandSHeadRun.head_any (r := OpenLaw.row PySem.Challenge.rw_watervalves_k03_canonical_plans) (q := view (OpenLaw.row PySem.Challenge.rw_watervalves_k03_canonical_plans).prog [57]) (H := Wv.hookY 4 Wv.faL Wv.fnL Wv.tsL Wv.tfL Wv.ssL Wv.exL) (ob := Wv.obL) (M := 40000) (loose := Wv.namesL) (d := HandSHeadRun.topDef (OpenLaw.row PySem.Challenge.rw_watervalves_k03_canonical_plans).prog 57) (kwd := []) Wv.obL_eq
    (by kernel_rfl) (fun s => by kernel_rfl) Wv.headRun (by kernel_rfl) (by kernel_rfl) (by kernel_rfl) (by rfl) (by first | assumption | decide +kernel) (by decide +kernel) ⟨rfl, rfl, rfl, rfl, rfl, by decide +kernel⟩ ?hw ?hc
  case hw => w_witness2
  case hc =>
    refine LamX.walk_ofTsE (l := PySem.Challenge.rw_watervalves_k03_canonical_plans) (n := 63) (k := 16) (x := "_law_script") (CX := fun _ => L2.CX0) rfl (by decide) (by kernel_rfl) ⟨rfl, by decide, by decide⟩ ?F (fun _ _ _ _ _ z => z)
    intro w mg fa h Y G hmg0
    obtain ⟨K, KX, c⟩ := Y
    have hmg : mg ("law" : PySem.Str) = some (.ref fa) := by
      have e : (HandSHeadRun.topDef (OpenLaw.row PySem.Challenge.rw_watervalves_k03_canonical_plans).prog 57).name = ("law" : PySem.Str) := by kernel_rfl
      rw [← e]
      exact hmg0
    exact ⟨K, KX, Wv.facts KX G hmg c⟩
end WvH3_
