import PyProof.Rows.All
import Wide.All
import OpenK.AllK
import Wide.FinOn
import HandS.ForMost
import HandS.IsInst
import HandS.TupLe
import HandS.TupAny
import HandS.Walk
import HandS.Flow
import HandS.Codes
import HandS.More
import HandS.Evl
import HandS.SetKeys
import HandS.NoneIn
import HandS.DictComp
import HandS.ListItems
import HandS.Zip
import HandS.ForExc
import HandS.WordsExc
import HandS.ExcField
import HandS.ExcIs
import HandS.ExcValue
import HandS.ExcSuper
import HandS.ExcInit
import HandS.ExcOwn
import KE.KExcIs
import HandS.Nested
import HandS.FStr
import HandS.FStrTup
import KE.KExcSuper
import HandS.SetFor
import HandS.Strs
import HandS.Defaults
import PyProof.DictRoadsH
import PyProof.Rows.TupDisplay
import KE.RegKIsAll
import KE.RegKSuper
import PySem.Challenge.RW_newnames_k09_whole_no_fewer
set_option Elab.async false
set_option linter.all false
set_option maxRecDepth 100000
set_option maxHeartbeats 4000000
namespace Nn
open PySem PySem.Spec PyProof.Rows L2

/-! ### the ledger: what a def's body knows of the heap -/
/-- M: addresses of the entry's heap H0 that the body may change; L: objects known now (new ones, and those of M); T: objects made since, that never change -/
structure At (M : List Addr) (H0 H : Hp) (L T : List (Addr × HO)) : Prop where
  base : ∀ a o, H0 a = some o → a ∉ M → H a = some o
  nd : (L.map Prod.fst).Nodup
  mem : ∀ e ∈ L, H e.1 = some e.2
  own : ∀ e ∈ L, H0 e.1 = none ∨ e.1 ∈ M
  mL : ∀ a ∈ M, a ∈ L.map Prod.fst
  tm : ∀ e ∈ T, H e.1 = some e.2
  td : ∀ e ∈ T, e.1 ∉ L.map Prod.fst
  tn : ∀ e ∈ T, H0 e.1 = none

/-- all but what stands in N is kept -/
def Kp (N : List Addr) (H H' : Hp) : Prop := ∀ a o, H a = some o → a ∉ N → H' a = some o
theorem Kp.refl {N : List Addr} (H : Hp) : Kp N H H := fun _ _ h _ => h
theorem Kp.same {H H' : Hp} (k : Kp [] H H') : Same H H' := fun a o h => k a o h (by simp)
theorem Kp.of {H H' : Hp} (k : Same H H') : Kp [] H H' := fun a o h _ => k a o h
theorem Kp.seq {K : PySem.W.Frag} {N : List Addr} {H H' : Hp} {a : Addr} {xs : List V} (k : Kp N H H') (h : SqL K H a xs) (hn : a ∉ N) : SqL K H' a xs := by
  rcases h with (h | ⟨o, h⟩) | h
  · exact .inl (.inl (k _ _ h hn))
  · exact .inl (.inr ⟨o, k _ _ h hn⟩)
  · exact .inr h
theorem Kp.sqt {K : PySem.W.Frag} {N : List Addr} {H H' : Hp} {a : Addr} {xs : List V} (k : Kp N H H') (h : SqT K H a xs) (hn : a ∉ N) : SqT K H' a xs := by
  rcases h with (h | ⟨o, h⟩) | h
  · exact .inl (.inl (k _ _ h hn))
  · exact .inl (.inr ⟨o, k _ _ h hn⟩)
  · exact .inr h
/-- one new object, not looked at again -/
def Sk (H H' : Hp) : Prop := H' = H ∨ ∃ p o, H p = none ∧ H' = upd H p o
theorem Sk.of {H : Hp} {p : Addr} {o : HO} (h : H p = none) : Sk H (upd H p o) := .inr ⟨p, o, h, rfl⟩
theorem Sk.rf {H : Hp} : Sk H H := .inl rfl

section
variable {M : List Addr} {H0 H H' : Hp} {L L' T N : List (Addr × HO)} {p : Addr} {o o' : HO} {i : Nat}
theorem At.nil (H : Hp) : At [] H H [] [] := ⟨fun _ _ h _ => h, List.nodup_nil, by simp, by simp, by simp, by simp, by simp, by simp⟩
theorem At.one (h : H p = some o) : At [p] H H [(p, o)] [] := ⟨fun _ _ h _ => h, by simp, by simpa using h, by simp, by simp, by simp, by simp, by simp⟩
theorem At.two {q : Addr} (h : H p = some o) (h' : H q = some o') (ne : p ≠ q) : At [p, q] H H [(p, o), (q, o')] [] :=
  ⟨fun _ _ h _ => h, by simpa using ne, by intro e he; simp only [List.mem_cons, List.not_mem_nil, or_false] at he; rcases he with rfl | rfl <;> assumption, by intro e he; simp only [List.mem_cons, List.not_mem_nil, or_false] at he; rcases he with rfl | rfl <;> simp, by simp, by simp, by simp, by simp⟩
theorem At.in (A : At M H0 H L T) (h : L[i]? = some (p, o)) : H p = some o := A.mem _ (List.mem_of_getElem? h)
theorem At.get (A : At M H0 H L T) (i : Nat) (h : L[i]? = some (p, o)) : H p = some o := A.in h
theorem At.keep (A : At M H0 H L T) : Kp M H0 H := A.base
theorem At.fresh (A : At M H0 H L T) (h : H p = none) : p ∉ L.map Prod.fst := fun hm => by
  obtain ⟨e, he, rfl⟩ := List.mem_map.mp hm
  rw [A.mem e he] at h
  cases h
theorem At.fresh0 (A : At M H0 H L T) (h : H p = none) : H0 p = none := by
  by_cases hM : p ∈ M
  · exact absurd (A.mL p hM) (A.fresh h)
  · cases e : H0 p with
    | none => rfl
    | some o =>
      rw [A.base p o e hM] at h
      cases h
theorem At.freshT (A : At M H0 H L T) (h : H p = none) : ∀ e ∈ T, e.1 ≠ p := fun e he q => by
  rw [← q, A.tm e he] at h
  cases h
/-- is new against the entry -/
theorem At.new0 (A : At M H0 H L T) (i : Nat) (h : L[i]? = some (p, o)) (hM : p ∉ M) : H0 p = none := (A.own _ (List.mem_of_getElem? h)).resolve_right hM
theorem At.skip (A : At M H0 H L T) (s : Sk H H') : At M H0 H' L T := by
  rcases s with rfl | ⟨p, o, h, rfl⟩
  · exact A
  · refine ⟨fun a u e hM => ?_, A.nd, fun e he => ?_, A.own, A.mL, fun e he => ?_, A.td, A.tn⟩
    · rw [upd_ne (ne_of_none (A.base a u e hM) h)]; exact A.base a u e hM
    · rw [upd_ne (ne_of_none (A.mem e he) h)]; exact A.mem e he
    · rw [upd_ne (ne_of_none (A.tm e he) h)]; exact A.tm e he
theorem At.snoc (A : At M H0 H L T) (h : H p = none) (o : HO) : At M H0 (upd H p o) (L ++ [(p, o)]) T := by
  have B := A.skip (Sk.of (o := o) h)
  have fr := A.fresh h
  refine ⟨B.base, ?_, ?_, ?_, ?_, B.tm, ?_, B.tn⟩
  · rw [List.map_append, List.nodup_append]
    refine ⟨A.nd, by simp, ?_⟩
    intro a ha b hb e
    rw [List.map_singleton, List.mem_singleton] at hb
    subst e; subst hb
    exact fr ha
  · intro e he
    rcases List.mem_append.mp he with he | he
    · exact B.mem e he
    · rw [List.mem_singleton] at he; subst he; exact upd_same
  · intro e he
    rcases List.mem_append.mp he with he | he
    · exact A.own e he
    · rw [List.mem_singleton] at he; subst he; exact .inl (A.fresh0 h)
  · intro a ha
    rw [List.map_append]
    exact List.mem_append_left _ (A.mL a ha)
  · intro e he
    rw [List.map_append, List.mem_append]
    rintro (q | q)
    · exact A.td e he q
    · rw [List.map_singleton, List.mem_singleton] at q; exact A.freshT h e he q
theorem At.snocT (A : At M H0 H L T) (h : H p = none) (o : HO) : At M H0 (upd H p o) L (T ++ [(p, o)]) := by
  have B := A.skip (Sk.of (o := o) h)
  refine ⟨B.base, A.nd, B.mem, A.own, A.mL, ?_, ?_, ?_⟩
  · intro e he
    rcases List.mem_append.mp he with he | he
    · exact B.tm e he
    · rw [List.mem_singleton] at he; subst he; exact upd_same
  · intro e he
    rcases List.mem_append.mp he with he | he
    · exact A.td e he
    · rw [List.mem_singleton] at he; subst he; exact A.fresh h
  · intro e he
    rcases List.mem_append.mp he with he | he
    · exact A.tn e he
    · rw [List.mem_singleton] at he; subst he; exact A.fresh0 h
theorem map_set_fst (L : List (Addr × HO)) (i : Nat) (h : L[i]? = some (p, o)) : (L.set i (p, o')).map Prod.fst = L.map Prod.fst := by
  rw [List.map_set]
  refine List.ext_getElem? fun j => ?_
  rw [List.getElem?_set]
  split
  · rename_i e
    subst e
    obtain ⟨hi, e1⟩ := List.getElem?_eq_some_iff.mp h
    rw [List.length_map, if_pos hi, List.getElem?_map, h]
    rfl
  · rfl
/-- what is known changes, the addresses stay -/
theorem At.chg (A : At M H0 H L T) {N : List Addr} (k : Kp N H H') (hN : ∀ a ∈ N, a ∈ L.map Prod.fst) (e : L'.map Prod.fst = L.map Prod.fst) (hm : ∀ e ∈ L', H' e.1 = some e.2) (hNM : ∀ a ∈ N, H0 a = none ∨ a ∈ M) : At M H0 H' L' T := by
  refine ⟨fun a u q hM => k a u (A.base a u q hM) fun hn => ?_, e ▸ A.nd, hm, fun x hx => ?_, fun a ha => e ▸ A.mL a ha, fun x hx => k _ _ (A.tm x hx) fun hn => A.td x hx (hN _ hn), fun x hx => e ▸ A.td x hx, A.tn⟩
  · rcases hNM a hn with z | z
    · rw [q] at z; cases z
    · exact hM z
  · have : x.1 ∈ L.map Prod.fst := e ▸ List.mem_map_of_mem (f := Prod.fst) hx
    obtain ⟨y, hy, ey⟩ := List.mem_map.mp this
    rw [← ey]
    exact A.own y hy
theorem mem_set_cases {x : Addr × HO} (h : L[i]? = some (p, o)) (nd : (L.map Prod.fst).Nodup) (hx : x ∈ L.set i (p, o')) : x = (p, o') ∨ (x ∈ L ∧ x.1 ≠ p) := by
  obtain ⟨j, hj⟩ := List.getElem?_of_mem hx
  rw [List.getElem?_set] at hj
  split at hj
  · split at hj
    · exact .inl (Option.some.inj hj).symm
    · cases hj
  · rename_i ne
    refine .inr ⟨List.mem_of_getElem? hj, fun q => ne ?_⟩
    have a1 : (L.map Prod.fst)[i]? = some p := by rw [List.getElem?_map, h]; rfl
    have a2 : (L.map Prod.fst)[j]? = some p := by rw [List.getElem?_map, hj]; exact congrArg some q
    exact nd_ix nd a1 a2
/-- a callee changed the object at place i alone -/
theorem At.c1 (A : At M H0 H L T) (i : Nat) (h : L[i]? = some (p, o)) (k : Kp [p] H H') (hp : H' p = some o') : At M H0 H' (L.set i (p, o')) T := by
  have hm : p ∈ L.map Prod.fst := List.mem_map_of_mem (f := Prod.fst) (List.mem_of_getElem? h)
  refine A.chg k (fun a ha => by rw [List.mem_singleton] at ha; exact ha ▸ hm) (map_set_fst L i h) (fun x hx => ?_) (fun a ha => by rw [List.mem_singleton] at ha; subst ha; exact A.own _ (List.mem_of_getElem? h))
  rcases mem_set_cases h A.nd hx with rfl | ⟨hx, ne⟩
  · exact hp
  · exact k _ _ (A.mem x hx) (by rw [List.mem_singleton]; exact ne)
theorem At.c0 (A : At M H0 H L T) (k : Kp [] H H') : At M H0 H' L T := A.chg k (by simp) rfl (fun x hx => k _ _ (A.mem x hx) (by simp)) (by simp)
theorem At.set (A : At M H0 H L T) (i : Nat) (h : L[i]? = some (p, o)) (o' : HO) : At M H0 (upd H p o') (L.set i (p, o')) T :=
  A.c1 i h (fun a u e hn => by rw [upd_ne (by simpa using hn)]; exact e) upd_same
/-- a callee made the object at p -/
theorem At.add (A : At M H0 H L T) (A' : At M H0 H' L' T) (e : L'.map Prod.fst = L.map Prod.fst) (h : H p = none) (hp : H' p = some o) : At M H0 H' (L' ++ [(p, o)]) T := by
  have fr := A.fresh h
  refine ⟨A'.base, ?_, ?_, ?_, ?_, A'.tm, ?_, A'.tn⟩
  · rw [List.map_append, List.nodup_append]
    refine ⟨A'.nd, by simp, ?_⟩
    intro a ha b hb q
    rw [List.map_singleton, List.mem_singleton] at hb
    subst q; subst hb
    exact fr (e ▸ ha)
  · intro x he
    rcases List.mem_append.mp he with he | he
    · exact A'.mem x he
    · rw [List.mem_singleton] at he; subst he; exact hp
  · intro x he
    rcases List.mem_append.mp he with he | he
    · exact A'.own x he
    · rw [List.mem_singleton] at he; subst he; exact .inl (A.fresh0 h)
  · intro a ha
    rw [List.map_append]
    exact List.mem_append_left _ (A'.mL a ha)
  · intro x he
    rw [List.map_append, List.mem_append]
    rintro (q | q)
    · exact A'.td x he q
    · rw [List.map_singleton, List.mem_singleton] at q; exact A.freshT h x he q
theorem At.addT (A : At M H0 H L T) (A' : At M H0 H' L' T) (e : L'.map Prod.fst = L.map Prod.fst) (N : List (Addr × HO)) (h : ∀ x ∈ N, H x.1 = none ∧ H' x.1 = some x.2) : At M H0 H' L' (T ++ N) := by
  refine ⟨A'.base, A'.nd, A'.mem, A'.own, A'.mL, ?_, ?_, ?_⟩
  · intro x he
    rcases List.mem_append.mp he with he | he
    · exact A'.tm x he
    · exact (h x he).2
  · intro x he
    rcases List.mem_append.mp he with he | he
    · exact A'.td x he
    · rw [e]; exact A.fresh (h x he).1
  · intro x he
    rcases List.mem_append.mp he with he | he
    · exact A'.tn x he
    · exact A.fresh0 (h x he).1
/-- the later entries forgotten -/
theorem At.take (A : At M H0 H L T) (n : Nat) (hM : ∀ a ∈ M, a ∈ (L.take n).map Prod.fst) : At M H0 H (L.take n) T :=
  ⟨A.base, A.nd.sublist ((List.take_sublist n L).map _), fun e he => A.mem e (List.mem_of_mem_take he), fun e he => A.own e (List.mem_of_mem_take he), hM, A.tm,
    fun e he q => A.td e he (((List.take_sublist n L).map _).subset q), A.tn⟩
theorem At.sub (A : At M H0 H L T) (hs : List.Sublist L' L) (hM : ∀ a ∈ M, a ∈ L'.map Prod.fst) : At M H0 H L' T :=
  ⟨A.base, A.nd.sublist (hs.map _), fun e he => A.mem e (hs.subset he), fun e he => A.own e (hs.subset he), hM, A.tm, fun e he q => A.td e he ((hs.map _).subset q), A.tn⟩
theorem At.sel (A : At M H0 H L T) (hM : ∀ a ∈ M, a ∈ L'.map Prod.fst) (hs : List.Sublist L' L) : At M H0 H L' T := A.sub hs hM
theorem At.selT (A : At M H0 H L T) (N : List (Addr × HO)) (h : ∀ x ∈ N, x ∈ T) : At M H0 H L N := ⟨A.base, A.nd, A.mem, A.own, A.mL, fun e he => A.tm e (h e he), fun e he => A.td e (h e he), fun e he => A.tn e (h e he)⟩
theorem At.lst {K : PySem.W.Frag} {xs : List V} (A : At M H0 H L T) (i : Nat) (h : L[i]? = some (p, .lst xs)) : SqL K H p xs := .inl (.inl (A.in h))
theorem At.tup {K : PySem.W.Frag} {xs : List V} (A : At M H0 H L T) (i : Nat) (h : L[i]? = some (p, .tup xs)) : SqT K H p xs := .inl (.inl (A.in h))
theorem At.sq {K : PySem.W.Frag} {xs : List V} (A : At M H0 H L T) (h : SqL K H0 p xs) (hM : p ∉ M) : SqL K H p xs := A.keep.seq h hM
theorem At.st {K : PySem.W.Frag} {xs : List V} (A : At M H0 H L T) (h : SqT K H0 p xs) (hM : p ∉ M) : SqT K H p xs := A.keep.sqt h hM
theorem At.ne (A : At M H0 H L T) {q : Addr} {u : HO} (i j : Nat) (h : L[i]? = some (p, o)) (h' : L[j]? = some (q, u)) (hij : i ≠ j) : p ≠ q := fun e => by
  subst e
  exact hij (nd_ix A.nd (x := p) (by rw [List.getElem?_map, h]; rfl) (by rw [List.getElem?_map, h']; rfl))
end

/-! the changed heap as a letter: the reading behind it is f of the heap (u: a new object; s: an object set; t: a new object that stays; n: a new one not looked at) -/
section
variable {M : List Addr} {H0 H : Hp} {L T : List (Addr × HO)} {p : Addr} {o o' : HO} {α β : Sort _} {f1 : Hp → Prop} {f2 : Hp → α → Prop} {f3 : Hp → α → β → Prop} {q : α} {r : β}
theorem At.u1 (A : At M H0 H L T) (h : H p = none) (k : ∀ H', At M H0 H' (L ++ [(p, o)]) T → f1 H') : f1 (upd H p o) := k _ (A.snoc h o)
theorem At.u2 (A : At M H0 H L T) (h : H p = none) (k : ∀ H', At M H0 H' (L ++ [(p, o)]) T → f2 H' q) : f2 (upd H p o) q := k _ (A.snoc h o)
theorem At.s1 (A : At M H0 H L T) (i : Nat) (h : L[i]? = some (p, o)) (k : ∀ H', At M H0 H' (L.set i (p, o')) T → f1 H') : f1 (upd H p o') := k _ (A.set i h o')
theorem At.s2 (A : At M H0 H L T) (i : Nat) (h : L[i]? = some (p, o)) (k : ∀ H', At M H0 H' (L.set i (p, o')) T → f2 H' q) : f2 (upd H p o') q := k _ (A.set i h o')
theorem At.t1 (A : At M H0 H L T) (h : H p = none) (k : ∀ H', At M H0 H' L (T ++ [(p, o)]) → f1 H') : f1 (upd H p o) := k _ (A.snocT h o)
theorem At.t2 (A : At M H0 H L T) (h : H p = none) (k : ∀ H', At M H0 H' L (T ++ [(p, o)]) → f2 H' q) : f2 (upd H p o) q := k _ (A.snocT h o)
theorem At.n1 (A : At M H0 H L T) (h : H p = none) (k : ∀ H', At M H0 H' L T → f1 H') : f1 (upd H p o) := k _ (A.skip (Sk.of h))
theorem At.n2 (A : At M H0 H L T) (h : H p = none) (k : ∀ H', At M H0 H' L T → f2 H' q) : f2 (upd H p o) q := k _ (A.skip (Sk.of h))
end
/-! ### calls of the text's own defs -/
structure Cl (P : Program) (w : World) (K : PySem.W.Frag) (mg : Str → Option Value) (base : Heap) (k : Nat) (x : Str) (sp : Sp) : Prop where
  ex : ∃ (f : Addr) (fd : FuncData) (ps : List Str), FnOk P w K mg base CX0 k f fd ps sp ∧ mg x = some (.ref f) ∧ PySem.W.keepIn K (.ref f) = true ∧ Binds K fd ps []
section
variable {X : Cx} {k j : Nat} {x : Str} {sp : Sp} {p pos : Pos} {e : Expr} {es : List Expr} {t : TA}
theorem pe_cl (c : Cl X.prog X.w X.K X.mg X.base k x sp) (hr : Room j X.A) (hk : k ≤ j) (hg : Gl X x) (ha : PA X (e :: es) t)
    (hdb : (x == ("__debug__" : Str)) = false := by decide) (he : starEach (e :: es) X.env = (false, eval e X.env) :: starEach es X.env := by rfl) (hpl : (backTo pos (starEach es X.env)).any (·.1) = false := by rfl) :
    PE X (.Call (.Name x p) (e :: es) [] pos) (tCall sp [] E0 t) := by
  obtain ⟨f, fd, ps, F, hm, kp, b⟩ := c.ex
  exact pe_call F (hr.mono hk) hg hm kp b .nil pass0 ha hdb he hpl
end

section
variable {X : Cx} {x : Str} {pos : Pos}
theorem pe_ty {T : String} (hg : Gl X x) (hm : X.mg x = none) (hv : bootBuiltins x = some (.type T)) (hn : x ≠ "__name__" := by decide) (hd : (x == ("__debug__" : Str)) = false := by decide) : PE X (.Name x pos) (tC (.ty T)) := pe_bltn hg hm hv rfl hn hd
theorem pe_gint {i : Int} (hg : Gl X x) (h : ∃ t, X.mg x = some (.int i t)) (hd : (x == ("__debug__" : Str)) = false := by decide) : PE X (.Name x pos) (tC (.int i)) := by
  obtain ⟨t, h⟩ := h
  exact pe_glob hg h ⟨t, rfl⟩ hd
theorem pe_gref {a : Addr} (hg : Gl X x) (h : X.mg x = some (.ref a)) (hd : (x == ("__debug__" : Str)) = false := by decide) : PE X (.Name x pos) (tC (.ref a)) := pe_glob hg h rfl hd
end
/-! within a comprehension's block: K as it is in the def -/
section
variable {X : Cx} {K : PySem.W.Frag}
theorem ix_list' (h : X.K = K) : IxR X (rIxL K) := h ▸ ix_list
theorem ix_tup' (h : X.K = K) : IxR X (rIxT K) := h ▸ ix_tup
theorem sl_list' (h : X.K = K) : SlR X (rSlL K) := h ▸ sl_list
theorem op_in_seq' (h : X.K = K) : OpR X (compareOp .In) (rIn K false) := h ▸ op_in_seq
theorem op_notIn_seq' (h : X.K = K) : OpR X (compareOp .NotIn) (rIn K true) := h ▸ op_notIn_seq
theorem op_eqD' (h : X.K = K) (hu : X.A.units + 64 < cLine) : OpR X (compareOp .Eq) (rEqD K) := h ▸ op_eqD hu
theorem op_neD' (h : X.K = K) (hu : X.A.units + 64 < cLine) : OpR X (compareOp .NotEq) (rNeD K) := h ▸ op_neD hu
theorem call_isi' (h : X.K = K) : CallR X (.builtin "isinstance") (rIsi K) := h ▸ call_isi
theorem pe_fld' {e : Expr} {f : Str} {pos : Pos} {ta : TE} (h : X.K = K) (he : PE X e ta) (hb : attributeBase e f X.env (eval e X.env) = eval e X.env) : PE X (.Attribute e f pos) (tFld K ta f) := h ▸ pe_fld he hb
theorem pg_tup' {pos : Pos} {es : List Expr} {k : Nat} {t : TGs} {n : Nat} (hK : X.K = K) (hc : X.calm = true) (h : PGs X es t)
    (hn : (assignEach es X.env).length = n := by rfl) (hst : (assignEach es X.env).findIdx? (·.1) = none := by rfl) : PG X (.Tuple es k pos) (gTup K n t) := hK ▸ pg_tup hc h hn hst
end
/-! ### readings, one step each -/
section
variable {σ : L2.St} {H : Hp} {Q : VK} {ta tb tc te : TE} {r r' : R2} {v x y : V} {K : PySem.W.Frag} {g : TG} {t u : TS} {c c' : TT} {n bk ct : L2.St → Hp → Prop} {rt : VK} {QT : Bool → Hp → Prop} {QA : List V → Hp → Prop} {tr : TA}
theorem rd_var {i : Nat} (h : σ[i]? = some (some v)) (k : Q v H) : tVar i σ H Q := ⟨v, h, k⟩
theorem rd_c (k : Q v H) : tC v σ H Q := k
theorem rd_op (k : ta σ H fun x H1 => tb σ H1 fun y H2 => r x y H2 Q) : tOp r ta tb σ H Q := k
theorem rd_un {r : V → Hp → VK → Prop} (k : ta σ H fun x H1 => r x H1 Q) : tUn r ta σ H Q := k
theorem rd_I0 {f : Int → Int → V} {i j : Int} (k : Q (f i j) H) : rI0 f (.int i) (.int j) H Q := ⟨i, j, rfl, rfl, k⟩
theorem rd_I {C : Int → Int → Prop} {f : Int → Int → V} {i j : Int} (c : C i j) (k : Q (f i j) H) : rI C f (.int i) (.int j) H Q := ⟨i, j, rfl, rfl, c, k⟩
theorem rd_mul {i j : Int} (c : CMul i j) (k : Q (.int (i * j)) H) : rI CMul (fun i j => .int (i * j)) (.int i) (.int j) H Q := ⟨i, j, rfl, rfl, c, k⟩
theorem rd_mod {i j : Int} (c : 0 < j) (k : Q (.int (i % j)) H) : rI (fun _ j => 0 < j) (fun i j => .int (i % j)) (.int i) (.int j) H Q := ⟨i, j, rfl, rfl, c, k⟩
theorem rd_fdiv {i j : Int} (c : CDiv i j) (k : Q (.int (i / j)) H) : rI CDiv (fun i j => .int (i / j)) (.int i) (.int j) H Q := ⟨i, j, rfl, rfl, c, k⟩
theorem rd_pow {i j : Int} (c : CPow i j) (k : Q (.int (i ^ j.toNat)) H) : rI CPow (fun i j => .int (i ^ j.toNat)) (.int i) (.int j) H Q := ⟨i, j, rfl, rfl, c, k⟩
theorem rd_U {f : Int → V} {i : Int} (k : Q (f i) H) : rU f (.int i) H Q := ⟨i, rfl, k⟩
theorem rd_eq (h : scal x y = true) (k : Q (.bl (decide (x = y))) H) : rEq x y H Q := ⟨h, k⟩
theorem rd_ne (h : scal x y = true) (k : Q (.bl (!decide (x = y))) H) : rNe x y H Q := ⟨h, k⟩
theorem rd_test (k : te σ H fun x H' => ∃ k, x = .bl k ∧ QT k H') : tTest te σ H QT := k
theorem rd_B (k : te σ H fun x H' => ∃ k, x = .bl k ∧ QT k H') : tB te σ H QT := k
theorem rd_bl {b : Bool} {R : Bool → Prop} (k : R b) : ∃ c, V.bl b = .bl c ∧ R c := ⟨b, rfl, k⟩
theorem rd_and (k : c σ H fun b H1 => if b = true then c' σ H1 QT else QT false H1) : tAnd c c' σ H QT := k
theorem rd_or (k : c σ H fun b H1 => if b = true then QT true H1 else c' σ H1 QT) : tOr c c' σ H QT := k
theorem rd_yes (k : QT true H) : tYes σ H QT := k
theorem rd_not (k : c σ H fun b H1 => QT (!b) H1) : tNot c σ H QT := k
theorem rd_andV (k : ta σ H fun x H1 => ∃ b, x = .bl b ∧ if b = true then tb σ H1 Q else Q (.bl false) H1) : tAndV ta tb σ H Q := k
theorem rd_orV (k : ta σ H fun x H1 => ∃ b, x = .bl b ∧ if b = true then Q (.bl true) H1 else tb σ H1 Q) : tOrV ta tb σ H Q := k
theorem rd_notV (k : ta σ H fun x H1 => ∃ b, x = .bl b ∧ Q (.bl (!b)) H1) : tNotV ta σ H Q := k
theorem rd_ifE (k : c σ H fun b H1 => if b = true then ta σ H1 Q else tb σ H1 Q) : tIf c ta tb σ H Q := k
theorem rd_chain (k : ta σ H fun x H1 => tb σ H1 fun y H2 => r x y H2 fun z H3 => ∃ k, z = .bl k ∧ (if k = true then tc σ H3 fun w' H4 => r' y w' H4 Q else Q (.bl false) H3)) : tChain r r' ta tb tc σ H Q := k
theorem rd_cons (k : ta σ H fun x H1 => tr σ H1 fun xs H2 => QA (x :: xs) H2) : tCons ta tr σ H QA := k
theorem rd_nil (k : QA [] H) : tNil σ H QA := k
theorem rd_call {sp : Sp} {E : XK} {dvs : List V} (k : tr σ H fun vs H1 => sp (vs ++ dvs) H1 Q E) : tCall sp dvs E tr σ H Q := k
theorem rd_cb {r : List V → Hp → VK → Prop} (k : tr σ H fun vs H1 => r vs H1 Q) : tCB r tr σ H Q := k
theorem rd_tup (k : tr σ H fun xs H1 => xs.length ≤ sizeLine ∧ ∀ p, H1 p = none → Q (.ref p) (upd H1 p (.tup xs))) : tTup tr σ H Q := k
theorem rd_lst (k : tr σ H fun xs H1 => xs.length ≤ sizeLine ∧ ∀ p, H1 p = none → Q (.ref p) (upd H1 p (.lst xs))) : tLst tr σ H Q := k
theorem rd_bm0 {T : String} {r : V → List V → Hp → VK → Prop} (k : te σ H fun x H1 => tyV K T x H1 ∧ r x [] H1 Q) : tBM0 K T r te σ H Q := k
theorem rd_bm {T : String} {r : V → List V → Hp → VK → Prop} (k : te σ H fun x H1 => tyV K T x H1 ∧ tr σ H1 fun xs H2 => r x xs H2 Q) : tBM K T r te tr σ H Q := k
theorem rd_m1 {r : V → List V → Hp → VK → Prop} (k : ta σ H fun x H1 => (∃ a, x = .str a) ∧ tb σ H1 fun y H2 => r x [y] H2 Q) : tM1 r ta tb σ H Q := k
theorem rd_sl {rs : V → Option Int → Option Int → Hp → VK → Prop} {tl th : TO} (k : te σ H fun x H1 => tl σ H1 fun lo H2 => th σ H2 fun hi H3 => rs x lo hi H3 Q) : tSl rs te tl th σ H Q := k
theorem rd_po0 {QO : Option Int → Hp → Prop} (k : QO none H) : tNoPart σ H QO := k
theorem rd_po1 {QO : Option Int → Hp → Prop} (k : te σ H fun x H1 => ∃ i, x = .int i ∧ QO (some i) H1) : tPart te σ H QO := k
theorem rd_in {i : Int} {R : Int → Prop} (k : R i) : ∃ j, V.int i = .int j ∧ R j := ⟨i, rfl, k⟩
theorem rd_dni {td ty : TE} (k : ty σ H fun y H1 => td σ H1 fun x H2 => ∃ a o, x = .ref a ∧ DGet H2 a y o ∧ Q (.bl (!o.isSome)) H2) : tDNotIn ty td σ H Q := k
theorem rd_di {td ty : TE} (k : ty σ H fun y H1 => td σ H1 fun x H2 => ∃ a o, x = .ref a ∧ DGet H2 a y o ∧ Q (.bl o.isSome) H2) : tDIn ty td σ H Q := k
theorem rd_dget {td ty : TE} (k : td σ H fun x H1 => ty σ H1 fun y H2 => ∃ a v, x = .ref a ∧ DGet H2 a y (some v) ∧ Q v H2) : tDGet td ty σ H Q := k
theorem rd_dget1 {td ty : TE} (k : td σ H fun x H1 => ∃ a, x = .ref a ∧ IsD H1 a ∧ ty σ H1 fun y H2 => ∃ o, DGet H2 a y o ∧ Q (o.getD .non) H2) : tDGet1 td ty σ H Q := k
theorem rd_dget2 {td ty tx : TE} (k : td σ H fun x H1 => ∃ a, x = .ref a ∧ IsD H1 a ∧ ty σ H1 fun y H2 => tx σ H2 fun z H3 => ∃ o, DGet H3 a y o ∧ Q (o.getD z) H3) : tDGet2 td ty tx σ H Q := k
theorem rd_dput {td ty tv : TE} (k : tv σ H fun v H1 => td σ H1 fun x H2 => ty σ H2 fun y H3 => ∃ a H4, x = .ref a ∧ DPut H3 a y v H4 ∧ n σ H4) : sDPut td ty tv ⟨n, rt, bk, ct⟩ σ H := k
theorem rd_dnew (k : ∀ p, H p = none → Q (.ref p) (upd H p (.dK []))) : tDNewK σ H Q := k
theorem rd_ikeys {td : TE} {R : It → Hp → Prop} (k : td σ H fun x H1 => ∃ d o, x = .ref d ∧ ((∃ kvs, H1 d = some (.frz o (.dK kvs)) ∧ R (Itk d o kvs) H1) ∨ ∃ kvs, H1 d = some (.frz o (.dT kvs)) ∧ R (Itkt d o kvs) H1)) : iKeys td σ H R := k
-- statements
theorem rd_lock {d : Addr} {u : HO} {t : TS} (hd : H d = some u) (mu : Mut (some u)) (k : ∀ od, t ⟨fun σ' H' => H' d = some (.frz od u) ∧ n σ' (upd H' d u), fun v H' => H' d = some (.frz od u) ∧ rt v (upd H' d u), fun σ' H' => H' d = some (.frz od u) ∧ bk σ' (upd H' d u), fun σ' H' => H' d = some (.frz od u) ∧ ct σ' (upd H' d u)⟩ σ (upd H d (.frz od u))) : tLock t ⟨n, rt, bk, ct⟩ σ H := ⟨d, u, hd, mu, k⟩
theorem rd_lockE {d : Addr} {u : HO} {t : TE} (hd : H d = some u) (mu : Mut (some u)) (k : ∀ od, t σ (upd H d (.frz od u)) fun v H' => H' d = some (.frz od u) ∧ Q v (upd H' d u)) : tLockE t σ H Q := ⟨d, u, hd, mu, k⟩
theorem rd_seq (k : t ⟨u ⟨n, rt, bk, ct⟩, rt, bk, ct⟩ σ H) : tSeq t u ⟨n, rt, bk, ct⟩ σ H := k
theorem rd_set {i : Nat} (k : te σ H fun x H1 => n (σ.set i (some x)) H1) : tAsg te (gName i) ⟨n, rt, bk, ct⟩ σ H := k
theorem rd_asg (k : te σ H fun x H1 => g x σ H1 n) : tAsg te g ⟨n, rt, bk, ct⟩ σ H := k
theorem rd_sub {s : TSet} {Q : L2.St → Hp → Prop} (k : ta σ H fun o H1 => tb σ H1 fun i H2 => s o i v H2 fun H3 => Q σ H3) : gSub ta tb s v σ H Q := k
theorem rd_ret (k : te σ H rt) : tRet te ⟨n, rt, bk, ct⟩ σ H := k
theorem rd_drop (k : te σ H fun _ H1 => n σ H1) : tDrop te ⟨n, rt, bk, ct⟩ σ H := k
theorem rd_next' (k : n σ H) : tNext ⟨n, rt, bk, ct⟩ σ H := k
theorem rd_if (k : c σ H fun b H1 => if b = true then t ⟨n, rt, bk, ct⟩ σ H1 else u ⟨n, rt, bk, ct⟩ σ H1) : tIfS c t u ⟨n, rt, bk, ct⟩ σ H := k
theorem rd_brk (k : bk σ H) : tBreak ⟨n, rt, bk, ct⟩ σ H := k
theorem rd_cont (k : ct σ H) : tCont ⟨n, rt, bk, ct⟩ σ H := k
theorem rd_lc {wi : TI} {vs : List Nat} (k : wi σ H fun J H1 => ∀ D, H1 D = none → ∃ W : Nat → Nat → Hp → Prop, (∃ m, W 0 m (upd H1 D (.lst []))) ∧ ∀ i m H, W i m H →
  (J.stop i H ∧ Q (.ref D) H) ∨ (J.go i H ∧ ∃ Nx : Hp → Prop, (∀ H', Nx H' → ∃ m', m' < m ∧ W (i + 1) m' H') ∧ ∀ x H', J.yld i H x H' → g x (wipe σ vs) H' fun σ2 H2 => wipe σ2 vs = wipe σ vs ∧ c σ2 H2 fun b H3 =>
    if b = true then te σ2 H3 fun y H4 => ∃ acc, H4 D = some (.lst acc) ∧ acc.length < sizeLine ∧ Nx (upd H4 D (.lst (acc ++ [y]))) else Nx H3)) : tLc wi g c te vs σ H Q := k
theorem rd_rng1 {R : It → Hp → Prop} (k : tr σ H fun vs H1 => ∃ j : Int, vs = [.int j] ∧ -(2 ^ 62) ≤ j ∧ j < 2 ^ 62 ∧ R (Itr 0 j.toNat) H1) : iRng1 tr σ H R := k
theorem rd_istr {R : It → Hp → Prop} (k : te σ H fun v H1 => ∃ x, v = .str x ∧ R (Its x) H1) : iStr te σ H R := k
theorem rd_ilst {R : It → Hp → Prop} (k : te σ H fun x H1 => ∃ a, x = .ref a ∧ (∃ xs, SqL K H1 a xs) ∧ R (Itl K a) H1) : iList K te σ H R := k
theorem rd_ienum {R : It → Hp → Prop} (k : tr σ H fun vs H1 => ∃ a xs, vs = [.ref a] ∧ SqL K H1 a xs ∧ R (Ite K a) H1) : iEnum K tr σ H R := k
-- ifs
theorem rd_ite {p : Prop} [Decidable p] {A B : Prop} (h1 : p → A) (h2 : ¬ p → B) : if decide p = true then A else B := by
  by_cases h : p
  · rw [if_pos (decide_eq_true h)]; exact h1 h
  · rw [if_neg (by rw [decide_eq_false h]; decide)]; exact h2 h
theorem rd_iteN {p : Prop} [Decidable p] {A B : Prop} (h1 : ¬ p → A) (h2 : p → B) : if (!decide p) = true then A else B := by
  by_cases h : p
  · rw [decide_eq_true h, if_neg (by decide)]; exact h2 h
  · rw [decide_eq_false h]; simpa using h1 h
theorem rd_T {A B : Prop} (h : A) : if true = true then A else B := by rw [if_pos rfl]; exact h
theorem rd_F {A B : Prop} (h : B) : if false = true then A else B := by rw [if_neg (by decide)]; exact h
theorem rd_nT {A B : Prop} (h : B) : if (!true) = true then A else B := by rw [if_neg (by decide)]; exact h
theorem rd_nF {A B : Prop} (h : A) : if (!false) = true then A else B := by rw [if_pos (by rfl)]; exact h
theorem rd_iteB {b : Bool} {A B : Prop} (h1 : b = true → A) (h2 : b = false → B) : if b = true then A else B := by
  cases b
  · exact h2 rfl
  · exact h1 rfl
-- the heap, by the ledger
variable {M : List Addr} {H0 : Hp} {L T : List (Addr × HO)}
theorem rd_new {o : HO} {m : Nat} (A : At M H0 H L T) (hz : m ≤ sizeLine) (k : ∀ p H', At M H0 H' (L ++ [(p, o)]) T → Q (.ref p) H') : m ≤ sizeLine ∧ ∀ p, H p = none → Q (.ref p) (upd H p o) := ⟨hz, fun p h => k p _ (A.snoc h o)⟩
theorem rd_new1 {o : HO} (A : At M H0 H L T) (k : ∀ p H', At M H0 H' (L ++ [(p, o)]) T → Q (.ref p) H') : ∀ p, H p = none → Q (.ref p) (upd H p o) := fun p h => k p _ (A.snoc h o)
theorem rd_newT {o : HO} {m : Nat} (A : At M H0 H L T) (hz : m ≤ sizeLine) (k : ∀ p H', At M H0 H' L (T ++ [(p, o)]) → Q (.ref p) H') : m ≤ sizeLine ∧ ∀ p, H p = none → Q (.ref p) (upd H p o) := ⟨hz, fun p h => k p _ (A.snocT h o)⟩
theorem rd_ixL {p : Addr} {xs : List V} {i : Int} (h : SqL K H p xs) (e : atI xs i = some v) (k : Q v H) : rIxL K (.ref p) (.int i) H Q := ⟨p, xs, i, v, rfl, rfl, h, e, k⟩
theorem rd_ixS {z : Str} {i : Int} {c : Nat} (h : z.length ≤ sizeLine) (e : atI z.cps.toList i = some c) (k : Q (.str ⟨#[c]⟩) H) : rIxS (.str z) (.int i) H Q := ⟨z, i, c, rfl, rfl, h, e, k⟩
theorem rd_ixT {p : Addr} {xs : List V} {i : Int} (h : SqT K H p xs) (e : atI xs i = some v) (k : Q v H) : rIxT K (.ref p) (.int i) H Q := ⟨p, xs, i, v, rfl, rfl, h, e, k⟩
theorem rd_setL {p : Addr} {xs : List V} {i : Int} {j : Nat} {QH : Hp → Prop} (A : At M H0 H L T) (m : Nat) (h : L[m]? = some (p, .lst xs)) (e : ixN xs.length i = some j) (k : ∀ H', At M H0 H' (L.set m (p, .lst (xs.set j v))) T → QH H') : rSetL (.ref p) (.int i) v H QH :=
  ⟨p, xs, i, j, rfl, rfl, A.in h, e, k _ (A.set m h _)⟩
theorem rd_acc {D : Addr} {acc : List V} {Nx : Hp → Prop} (A : At M H0 H L T) (m : Nat) (h : L[m]? = some (D, .lst acc)) (hz : acc.length < sizeLine) (k : ∀ H', At M H0 H' (L.set m (D, .lst (acc ++ [v]))) T → Nx H') :
    ∃ acc, H D = some (.lst acc) ∧ acc.length < sizeLine ∧ Nx (upd H D (.lst (acc ++ [v]))) := ⟨acc, A.in h, hz, k _ (A.set m h _)⟩
theorem rd_slL {a : Addr} {xs : List V} {lo hi : Option Int} (A : At M H0 H L T) (h : SqL K H a xs) (k : ∀ p H', At M H0 H' (L ++ [(p, .lst (cutV xs lo hi))]) T → Q (.ref p) H') : rSlL K (.ref a) lo hi H Q := ⟨a, xs, rfl, h, fun p hp => k p _ (A.snoc hp _)⟩
theorem rd_for {wi : TI} (k : wi σ H fun J H1 => ∃ W : Nat → Nat → L2.St → Hp → Prop, (∃ m, W 0 m σ H1) ∧ ∀ i m σ H, W i m σ H → (J.stop i H ∧ n σ H) ∨ (J.go i H ∧ ∃ N : L2.St → Hp → Prop, (∀ σ' H', N σ' H' → ∃ m', m' < m ∧ W (i + 1) m' σ' H') ∧ ∀ x H', J.yld i H x H' → g x σ H' fun σ2 H2 => t ⟨N, rt, n, N⟩ σ2 H2)) : tFor wi g t ⟨n, rt, bk, ct⟩ σ H := k
/-- a for over what walks -/
theorem forI {J : It} {z : Nat} {G : Hp → Prop} {Y : Nat → Hp → V → Hp → Prop} (w : Walk J z G Y) (Pv : Nat → L2.St → Hp → Prop) (h0 : Pv 0 σ H) (hG : ∀ i σ H, i ≤ z → Pv i σ H → G H)
    (hs : ∀ i x σ H H', i < z → Pv i σ H → Y i H x H' → g x σ H' fun σ2 H2 => t ⟨Pv (i + 1), rt, n, Pv (i + 1)⟩ σ2 H2) (hd : ∀ σ H, Pv z σ H → n σ H) :
    ∃ W : Nat → Nat → L2.St → Hp → Prop, (∃ m, W 0 m σ H) ∧ ∀ i m σ H, W i m σ H → (J.stop i H ∧ n σ H) ∨ (J.go i H ∧ ∃ N : L2.St → Hp → Prop, (∀ σ' H', N σ' H' → ∃ m', m' < m ∧ W (i + 1) m' σ' H') ∧ ∀ x H', J.yld i H x H' → g x σ H' fun σ2 H2 => t ⟨N, rt, n, N⟩ σ2 H2) :=
  for_it (D := ⟨n, rt, fun _ _ => False, fun _ _ => False⟩) w Pv h0 hG hs hd
/-- while: W falls -/
theorem rd_while (W : Nat → L2.St → Hp → Prop) (m : Nat) (h0 : W m σ H) (hs : ∀ m σ H, W m σ H → c σ H fun b H1 => if b = true then ∃ N : L2.St → Hp → Prop, (∀ σ' H', N σ' H' → ∃ m', m' < m ∧ W m' σ' H') ∧ t ⟨N, rt, n, N⟩ σ H1 else n σ H1) : tWhile c t ⟨n, rt, bk, ct⟩ σ H := ⟨W, ⟨m, h0⟩, hs⟩
/-- for i, x in enumerate(l) -/
theorem rd_forEnum {l : Addr} {xs : List V} {a b j : Nat} (hj : σ[j]? = some (some (.ref l))) (h : SqL K H l xs) (Pv : Nat → L2.St → Hp → Prop) (h0 : Pv 0 σ H) (hl : ∀ i σ H, Pv i σ H → SqL K H l xs)
    (hs : ∀ i x σ H H', xs[i]? = some x → Pv i σ H → Sk H H' → t ⟨Pv (i + 1), rt, n, Pv (i + 1)⟩ ((σ.set a (some (.int (i : Int)))).set b (some x)) H') (hd : ∀ σ H, Pv xs.length σ H → n σ H) :
    tFor (iEnum K (tCons (tVar j) tNil)) (gTup K 2 (gCons (gName a) (gCons (gName b) gNil))) t ⟨n, rt, bk, ct⟩ σ H := by
  refine ⟨_, hj, l, xs, rfl, h, for_it walk_enum Pv h0 (fun i σ H _ p => hl i σ H p) (fun i x σ H H' hi p y => ?_) hd⟩
  obtain ⟨T, x1, x2, rfl, hT, rfl, e1, e2⟩ := y
  cases Option.some.inj e1
  exact ⟨T, [.int (i : Nat), x2], rfl, .inl (.inl upd_same), rfl, _, _, rfl, _, _, rfl, rfl, hs i x2 σ H _ e2 p (Sk.of hT)⟩
/-- a value reckoned without a change of the heap -/
def Pu (te : TE) (σ : L2.St) (H : Hp) (v : V) : Prop := ∀ Q : VK, Q v H → te σ H Q
def PuT (tt : TT) (σ : L2.St) (H : Hp) (b : Bool) : Prop := ∀ Q : Bool → Hp → Prop, Q b H → tt σ H Q
theorem rd_andP {b1 b2 : Bool} (h1 : Pu ta σ H (.bl b1)) (h2 : b1 = true → Pu tb σ H (.bl b2)) (k : Q (.bl (b1 && b2)) H) : tAndV ta tb σ H Q :=
  h1 _ ⟨b1, rfl, by cases b1 with
    | true => exact rd_T (h2 rfl _ k)
    | false => exact rd_F k⟩
theorem rd_orP {b1 b2 : Bool} (h1 : Pu ta σ H (.bl b1)) (h2 : b1 = false → Pu tb σ H (.bl b2)) (k : Q (.bl (b1 || b2)) H) : tOrV ta tb σ H Q :=
  h1 _ ⟨b1, rfl, by cases b1 with
    | true => exact rd_T k
    | false => exact rd_F (h2 rfl _ k)⟩
theorem rd_pu (h : Pu te σ H v) (k : Q v H) : te σ H Q := h Q k
theorem rd_cut (Mid : L2.St → Hp → Prop) (h1 : t ⟨Mid, rt, bk, ct⟩ σ H) (h2 : ∀ σ' H', Mid σ' H' → u ⟨n, rt, bk, ct⟩ σ' H') : Evl.tCut t u ⟨n, rt, bk, ct⟩ σ H := ⟨Mid, h1, h2⟩
theorem rd_gn {i : Nat} {Q : L2.St → Hp → Prop} (k : Q (σ.set i (some v)) H) : gName i v σ H Q := k
end
theorem paired_map {α β γ : Type} {R : β → γ → Prop} {f : α → β} {g : α → γ} : ∀ {l : List α}, (∀ x ∈ l, R (f x) (g x)) → Paired R (l.map f) (l.map g)
  | [], _ => .nil
  | x :: l, h => .cons (h x List.mem_cons_self) (paired_map fun y hy => h y (List.mem_cons_of_mem _ hy))
theorem erase_perm {α : Type} {l : List α} {i : Nat} (h : i < l.length) : (l[i] :: l.eraseIdx i).Perm l := by
  rw [List.eraseIdx_eq_take_drop_succ]
  have e : l.take i ++ l[i] :: l.drop (i + 1) = l := by rw [List.getElem_cons_drop h, List.take_append_drop]
  exact (List.perm_middle.symm).trans (by rw [e])
theorem map_erase {α β : Type} (f : α → β) (l : List α) (i : Nat) : (l.map f).eraseIdx i = (l.eraseIdx i).map f := by
  rw [List.eraseIdx_eq_take_drop_succ, List.eraseIdx_eq_take_drop_succ, List.map_append, List.map_take, List.map_drop]
theorem szl {n : Nat} (h : Nat.ble n 100000 = true := by rfl) : n ≤ sizeLine := Nat.le_trans (Nat.le_of_ble_eq_true h) (by decide)
theorem szn {n : Nat} (h : n ≤ 100000) : n ≤ sizeLine := Nat.le_trans h (by decide)
theorem szn' {n : Nat} (h : n < 100000) : n < sizeLine := Nat.lt_of_lt_of_le h (by decide)
theorem ixN_nat {n j : Nat} (hj : j < n) : ixN n (j : Int) = some j := by
  unfold ixN
  rw [if_pos (by omega), if_pos (by omega)]
  simp
theorem ixN_int {n : Nat} {i : Int} (h0 : 0 ≤ i) (h : i < n) : ixN n i = some i.toNat := by
  unfold ixN
  rw [if_pos h0, if_pos h]
theorem atI_int {α : Type} {xs : List α} {i : Int} (h0 : 0 ≤ i) (h : i < xs.length) : atI xs i = some (xs[i.toNat]'(by omega)) := by
  obtain ⟨j, rfl⟩ := Int.eq_ofNat_of_zero_le h0
  exact atI_nat (List.getElem?_eq_getElem (by omega))
theorem atI_ex {α : Type} {xs : List α} {i : Int} (h0 : 0 ≤ i) (h : i < xs.length) : ∃ x ∈ xs, atI xs i = some x := ⟨_, List.getElem_mem _, atI_int h0 h⟩

/-! ### None, or a text; sets of texts -/
def ov : Option Str → V
  | none => .non
  | some z => .str z
theorem setOf_none {P : Program} {w : World} {h : Heap} {a : Addr} {S : Key → Bool} {n : Nat} (R : h.SetOf (mixKind P w) a S n) : h.SetOf (noneKind P w) a (fun o => match o with | none => false | some k => S k) n := by
  obtain ⟨o, es, ep, t, ho, hx, hd, el, mem, b, f, z⟩ := R
  refine ⟨o, es, ep, t, ho, hx, hd, fun e he => ?_, fun k => ?_, b, f, z⟩
  · obtain ⟨⟨k, h1, h2⟩, h3⟩ := el e he
    exact ⟨⟨some k, h1, h2⟩, h3⟩
  · cases k with
    | some k => exact mem k
    | none =>
      refine ⟨fun q => (by cases q), fun ⟨e, he, q⟩ => ?_⟩
      obtain ⟨⟨k, h1, _⟩, _⟩ := el e he
      have h1 : keyIs k e.2 = true := h1
      rw [nk_none q] at h1
      exact absurd h1 (keyIs_none k)
def inO (S : Key → Bool) : Option Str → Bool
  | none => false
  | some z => S (.inr z)
/-- x in s, x None or a text -/
def rInO (P : Program) (w : World) : R2 := fun x y H Q => ∃ (o : Option Str) (a : Addr) (S : Key → Bool) (n : Nat), x = ov o ∧ y = V.ref a ∧ H a = some (SetK P w a S n) ∧ Q (.bl (inO S o)) H
theorem or_inO {X : Cx} : OpR X (compareOp .In) (rInO X.prog X.w) := by
  intro pins s σ H x y v u Q I rx ry h
  obtain ⟨o, a, S, n, rfl, rfl, ha, q⟩ := h
  cases ry
  cases o with
  | none =>
    cases (show v = Value.none from rx)
    exact wpAny_inSet_of (knd := noneKind X.prog X.w) (k := none) rfl rfl (setOf_none (setK_get I ha)) ⟨.bl false, H, I.tok _, rfl, q⟩
  | some z => exact wpAny_inSet_of (knd := mixKind X.prog X.w) (k := .inr z) (kV_is (k := .inr z) rx) (key_scan (k := .inr z) rx) (setK_get I ha) ⟨.bl (S (.inr z)), H, I.tok _, rfl, q⟩
/-- a dict comprehension over what walks -/
theorem dc_it {J : It} {n : Nat} {G : Hp → Prop} {Y : Nat → Hp → V → Hp → Prop} (w : Walk J n G Y) {g : TG} {tt : TT} {tk tv : TE} {vs : List Nat} {σ : L2.St} {H1 : Hp} {D : Addr} {Qd : Hp → Prop} (Pv : Nat → Hp → Prop) (h0 : Pv 0 (upd H1 D (.dK []))) (hG : ∀ i H, i ≤ n → Pv i H → G H)
    (hs : ∀ i x H H', i < n → Pv i H → Y i H x H' → g x (wipe σ vs) H' fun σ2 H2 => wipe σ2 vs = wipe σ vs ∧ tt σ2 H2 fun b H3 =>
      if b = true then tk σ2 H3 fun y H4 => tv σ2 H4 fun z H5 => ∃ kvs k, y = kV k ∧ H5 D = some (.dK kvs) ∧ kvs.length < sizeLine ∧ Pv (i + 1) (upd H5 D (.dK (putK kvs k z))) else Pv (i + 1) H3) (hd : ∀ H, Pv n H → Qd H) :
    ∃ W : Nat → Nat → Hp → Prop, (∃ m, W 0 m (upd H1 D (.dK []))) ∧ ∀ i m H, W i m H →
      (J.stop i H ∧ Qd H) ∨ (J.go i H ∧ ∃ Nx : Hp → Prop, (∀ H', Nx H' → ∃ m', m' < m ∧ W (i + 1) m' H') ∧ ∀ x H', J.yld i H x H' → g x (wipe σ vs) H' fun σ2 H2 => wipe σ2 vs = wipe σ vs ∧ tt σ2 H2 fun b H3 =>
        if b = true then tk σ2 H3 fun y H4 => tv σ2 H4 fun z H5 => ∃ kvs k, y = kV k ∧ H5 D = some (.dK kvs) ∧ kvs.length < sizeLine ∧ Nx (upd H5 D (.dK (putK kvs k z))) else Nx H3) := by
  refine ⟨fun i m H => m + i = n ∧ Pv i H, ⟨n, rfl, h0⟩, fun i m H hw => ?_⟩
  obtain ⟨e, p⟩ := hw
  by_cases hlt : i < n
  · exact .inr ⟨w.goes i H hlt (hG i H (by omega) p), Pv (i + 1), fun H' p' => ⟨m - 1, by omega, by omega, p'⟩, fun x H' y => hs i x H H' hlt p (w.yields i H x H' hlt (hG i H (by omega) p) y)⟩
  · have e2 : i = n := by omega
    rw [e2] at p ⊢
    exact .inl ⟨w.stops H (hG n H (Nat.le_refl _) p), hd H p⟩

/-! ### classes and methods of the text -/
structure Mr (P : Program) (w : World) (K : PySem.W.Frag) (mg : Str → Option Value) (base : Heap) (k : Nat) (x : Str) (C : Addr) (sp : Sp) : Prop where
  ex : ∃ (f : Addr) (fd : FuncData) (ps : List Str), Mk K C f ∧ FnOk P w K mg base CX0 k f fd ps sp ∧ mg x = some (.ref C) ∧ Binds K fd ps []
structure Mt (P : Program) (w : World) (K : PySem.W.Frag) (mg : Str → Option Value) (base : Heap) (k : Nat) (C : Addr) (m : Str) (sp : Sp) : Prop where
  ex : ∃ (f : Addr) (fd : FuncData) (ps : List Str), Cls K C ∧ Meth K C m f ∧ FnOk P w K mg base CX0 k f fd ps sp ∧ Binds K fd ps []
section
variable {X : Cx} {k j : Nat} {C : Addr} {x m : Str} {sp : Sp} {p pos apos : Pos} {e o : Expr} {es : List Expr} {ta : TE} {t : TA}
theorem pe_mr (c : Mr X.prog X.w X.K X.mg X.base k x C sp) (hr : Room j X.A) (hk : k + 1 ≤ j) (hg : Gl X x) (ha : PA X (e :: es) t)
    (hdb : (x == ("__debug__" : Str)) = false := by decide) (he : starEach (e :: es) X.env = (false, eval e X.env) :: starEach es X.env := by rfl) (hpl : (backTo pos (starEach es X.env)).any (·.1) = false := by rfl) :
    PE X (.Call (.Name x p) (e :: es) [] pos) (tMake C sp [] E0 t) := by
  obtain ⟨f, fd, ps, M, F, hm, b⟩ := c.ex
  exact pe_make M F (hr.mono hk) hg hm b .nil pass0 ha hdb he hpl
theorem pe_me {pl : Sem Bool} (c : Mt X.prog X.w X.K X.mg X.base k C m sp) (hr : Room j X.A) (hk : k ≤ j) (he : PE X o ta) (ha : PA X (e :: es) t)
    (hst : starEach (e :: es) X.env = (false, eval e X.env) :: starEach es X.env := by rfl) (hpl : (backTo pos (starEach es X.env)).any (·.1) = false := by rfl)
    (ht : eval (.Call (.Attribute o m apos) (e :: es) [] pos) X.env = (do
      let ov ← eval o X.env
      standAt apos.atName
      let (f, first) ← holding [ov] (getMethod ov m pl)
      callWith pos f first (backTo pos (starEach (e :: es) X.env)) (backToKw pos (keywordEach [] X.env))) := by rfl) :
    PE X (.Call (.Attribute o m apos) (e :: es) [] pos) (tMeth C m sp [] E0 ta t) := by
  obtain ⟨f, fd, ps, hc, hm, F, b⟩ := c.ex
  exact pe_meth (pl := pl) he hc hm F (hr.mono hk) b .nil pass0 ha hst hpl ht
theorem pe_me0 {pl : Sem Bool} (c : Mt X.prog X.w X.K X.mg X.base k C m sp) (hr : Room j X.A) (hk : k ≤ j) (he : PE X o ta)
    (ht : eval (.Call (.Attribute o m apos) [] [] pos) X.env = (do
      let ov ← eval o X.env
      standAt apos.atName
      let (f, first) ← holding [ov] (getMethod ov m pl)
      callWith pos f first (backTo pos (starEach [] X.env)) (backToKw pos (keywordEach [] X.env))) := by rfl) :
    PE X (.Call (.Attribute o m apos) [] [] pos) (tMeth C m sp [] E0 ta tNil) := by
  obtain ⟨f, fd, ps, hc, hm, F, b⟩ := c.ex
  exact pe_meth0 (pl := pl) he hc hm F (hr.mono hk) b .nil pass0 ht
end
section
variable {σ : L2.St} {H : Hp} {Q : VK} {ta tv te : TE} {t : TA} {n bk ct : L2.St → Hp → Prop} {rt : VK} {K : PySem.W.Frag} {C : Addr} {sp : Sp} {E : XK} {m f : Str} {wi : TI} {g : TG} {tt : TT} {tk : TE} {vs : List Nat}
theorem rd_make (k : t σ H fun vs H1 => ∀ x dx, H1 x = none → H1 dx = none → dx ≠ x → sp (.ref x :: (vs ++ [])) (upd (upd H1 dx (.own x)) x (.ins C dx [])) (fun v H2 => v = .non ∧ Q (.ref x) H2) E) : tMake C sp [] E t σ H Q := k
theorem rd_meth (k : ta σ H fun x H1 => ∃ a dx fs, x = .ref a ∧ H1 a = some (.ins C dx fs) ∧ fs.lookup m = none ∧ t σ H1 fun vs H2 => sp (x :: (vs ++ [])) H2 Q E) : tMeth C m sp [] E ta t σ H Q := k
theorem rd_fld (k : ta σ H fun x H1 => ∃ a C dx fs v, x = .ref a ∧ H1 a = some (.ins C dx fs) ∧ Cls K C ∧ NoAttr K C f ∧ fs.lookup f = some v ∧ Q v H1) : tFld K ta f σ H Q := k
theorem rd_sfld (k : tv σ H fun y H1 => ta σ H1 fun x H2 => ∃ a C dx fs, x = .ref a ∧ H2 a = some (.ins C dx fs) ∧ Cls K C ∧ NoAttr K C f ∧ fs.length < 1000 ∧ n σ (upd H2 a (.ins C dx (putF f y fs)))) : sFld K ta tv f ⟨n, rt, bk, ct⟩ σ H := k
theorem rd_dc (k : wi σ H fun J H1 => ∀ D, H1 D = none → ∃ W : Nat → Nat → Hp → Prop, (∃ m, W 0 m (upd H1 D (.dK []))) ∧ ∀ i m H, W i m H →
  (J.stop i H ∧ Q (.ref D) H) ∨ (J.go i H ∧ ∃ Nx : Hp → Prop, (∀ H', Nx H' → ∃ m', m' < m ∧ W (i + 1) m' H') ∧ ∀ x H', J.yld i H x H' → g x (wipe σ vs) H' fun σ2 H2 => wipe σ2 vs = wipe σ vs ∧ tt σ2 H2 fun b H3 =>
    if b = true then tk σ2 H3 fun y H4 => tv σ2 H4 fun z H5 => ∃ kvs k, y = kV k ∧ H5 D = some (.dK kvs) ∧ kvs.length < sizeLine ∧ Nx (upd H5 D (.dK (putK kvs k z))) else Nx H3)) : tDc wi g tt tk tv vs σ H Q := k
theorem rd_items (k : te σ H fun x H1 => LiI.rItemsL x H1 Q) : LiI.tListItems te σ H Q := k
theorem rd_sadd {P : Program} {w : World} (k : ta σ H fun x H1 => (∃ a S n, x = V.ref a ∧ H1 a = some (SetK P w a S n)) ∧ t σ H1 fun xs H2 => rSAddK P w x xs H2 Q) : tSAddK P w ta t σ H Q := k
theorem rd_ivals {td : TE} {R : It → Hp → Prop} (k : td σ H fun x H1 => ∃ d o kvs, x = .ref d ∧ H1 d = some (.frz o (.dK kvs)) ∧ R (Itd d o kvs) H1) : iVals td σ H R := k
end
/-! ### data, the same at two places -/
theorem ex_same {K : PySem.W.Frag} {H H' : Hp} (k : Same H H') {a : Addr} {xs : List V} (h : SqT K H a xs) : SqT K H' a xs := by
  rcases h with (h | ⟨o, h⟩) | h
  · exact .inl (.inl (k _ _ h))
  · exact .inl (.inr ⟨o, k _ _ h⟩)
  · exact .inr h
mutual
theorem dp_kp {K : PySem.W.Frag} {H H' : Hp} (k : Same H H') : ∀ (d : PyData) (v : V), Dp K H v d → Dp K H' v d
  | .none, _, h => by cases h; exact .non
  | .bool b, _, h => by cases h; exact .bl b
  | .int i, _, h => by cases h; exact .int i
  | .str x, _, h => by cases h; exact .str x
  | .list ds, _, h => by
    cases h with
    | lst hs ha => exact .lst (k.seq hs) (dpa_kp k ds _ ha)
  | .tuple ds, _, h => by
    cases h with
    | tup hs ha => exact .tup (ex_same k hs) (dpa_kp k ds _ ha)
  | .dict _, _, h => by cases h
theorem dpa_kp {K : PySem.W.Frag} {H H' : Hp} (k : Same H H') : ∀ (ds : List PyData) (vs : List V), DpAll K H vs ds → DpAll K H' vs ds
  | [], _, h => by cases h; exact .nil
  | d :: ds, _, h => by
    cases h with
    | cons h1 h2 => exact .cons (dp_kp k d _ h1) (dpa_kp k ds _ h2)
end
theorem dpa_len {K : PySem.W.Frag} {H : Hp} : ∀ {ds : List PyData} {vs : List V}, DpAll K H vs ds → vs.length = ds.length
  | [], _, h => by cases h; rfl
  | d :: ds, _, h => by
    cases h with
    | cons h1 h2 => rw [List.length_cons, List.length_cons, dpa_len h2]
theorem dpa_get {K : PySem.W.Frag} {H : Hp} : ∀ {ds : List PyData} {vs : List V}, DpAll K H vs ds → ∀ {i : Nat} {x : V} {d : PyData}, vs[i]? = some x → ds[i]? = some d → Dp K H x d
  | [], _, h, i, x, d, hx, hd => by cases hd
  | e :: ds, _, h, i, x, d, hx, hd => by
    cases h with
    | cons h1 h2 =>
      cases i with
      | zero => cases hx; cases hd; exact h1
      | succ i => exact dpa_get h2 hx hd
theorem dpa_of {K : PySem.W.Frag} {H : Hp} {α : Type} {f : α → V} {g : α → PyData} : ∀ {l : List α}, (∀ x ∈ l, Dp K H (f x) (g x)) → DpAll K H (l.map f) (l.map g)
  | [], _ => .nil
  | x :: l, h => .cons (h x List.mem_cons_self) (dpa_of fun y hy => h y (List.mem_cons_of_mem _ hy))
theorem ty_list {K : PySem.W.Frag} {H : Hp} {a : Addr} {xs : List V} (h : SqL K H a xs) : TyX K H (.ref a) (.type "list") := by
  rcases h with (h | ⟨o, h⟩) | ⟨o, its, n, e, c, _⟩
  · exact .base (.lst h)
  · exact .base (.frz h)
  · exact .kList e c
theorem ty_tuple {K : PySem.W.Frag} {H : Hp} {a : Addr} {xs : List V} (h : SqT K H a xs) : TyX K H (.ref a) (.type "tuple") := by
  rcases h with (h | ⟨o, h⟩) | ⟨o, its, n, e, c, _⟩
  · exact .base (.tup h)
  · exact .fTuple h
  · exact .kTuple e c
def tyOf : PyData → String
  | .none => "NoneType"
  | .bool _ => "bool"
  | .int _ => "int"
  | .str _ => "str"
  | .list _ => "list"
  | .tuple _ => "tuple"
  | .dict _ => "dict"
theorem ty_dp {K : PySem.W.Frag} {H : Hp} {v : V} {d : PyData} (h : Dp K H v d) : TyX K H v (.type (tyOf d)) := by
  cases h with
  | non => exact .base .non
  | bl b => exact .base (.bl b)
  | int i => exact .base (.int i)
  | str x => exact .base (.str x)
  | lst hs _ => exact ty_list hs
  | tup hs _ => exact ty_tuple hs
/-- data of at most n levels, lists and tuples short -/
def Sm : Nat → PyData → Prop
  | _, .none => True
  | _, .bool _ => True
  | _, .int _ => True
  | _, .str z => PyData.strOk z = true
  | n + 1, .list ds => ds.length ≤ 1000 ∧ ∀ e ∈ ds, Sm n e
  | n + 1, .tuple ds => ds.length ≤ 1000 ∧ ∀ e ∈ ds, Sm n e
  | _, _ => False
theorem walk_zipT {K : PySem.W.Frag} {a b : Addr} {xs ys : List V} {n : Nat} (hn : n = min xs.length ys.length) : Walk (RZ.ItzT K a b) n (fun H => SqT K H a xs ∧ SqT K H b ys) (YPair (fun i => xs[i]?) (fun i => ys[i]?)) := by
  subst hn
  refine ⟨fun i H hi q => ⟨xs, ys, xs[i]'(by omega), ys[i]'(by omega), q.1, q.2, List.getElem?_eq_getElem _, List.getElem?_eq_getElem _⟩, fun H q => ⟨xs, ys, q.1, q.2, by omega⟩, fun i H v H' hi q y => ?_⟩
  obtain ⟨T, x, y, h1, h2, h3, h4, h5⟩ := y
  exact ⟨T, x, y, h1, h2, h3, h4 xs q.1, h5 ys q.2⟩
/-! ### built-in names that the module leaves -/
structure Blt (mg : Str → Option Value) : Prop where
  len : mg "len" = none
  isinstance : mg "isinstance" = none
  str : mg "str" = none
  all : mg "all" = none
  enumerate : mg "enumerate" = none
  range : mg "range" = none
  bool : mg "bool" = none
  tuple : mg "tuple" = none
  dict : mg "dict" = none
  list : mg "list" = none
  sorted : mg "sorted" = none
  set : mg "set" = none
  zip : mg "zip" = none
  int : mg "int" = none
  min : mg "min" = none
  repr : mg "repr" = none
  ValueError : mg "ValueError" = none
  super : mg "super" = none
theorem blt_mk {K : PySem.W.Frag} {h : Heap} {mg : Str → Option Value} (X : K.In h) (G : h.Ns mainGlobals mg)
    (z1 : PySem.W.nsIn K mainGlobals "len" = some none) (z2 : PySem.W.nsIn K mainGlobals "isinstance" = some none) (z3 : PySem.W.nsIn K mainGlobals "str" = some none) (z4 : PySem.W.nsIn K mainGlobals "all" = some none)
    (z5 : PySem.W.nsIn K mainGlobals "enumerate" = some none) (z6 : PySem.W.nsIn K mainGlobals "range" = some none) (z7 : PySem.W.nsIn K mainGlobals "bool" = some none) (z8 : PySem.W.nsIn K mainGlobals "tuple" = some none)
    (z9 : PySem.W.nsIn K mainGlobals "dict" = some none) (z10 : PySem.W.nsIn K mainGlobals "list" = some none) (z11 : PySem.W.nsIn K mainGlobals "sorted" = some none) (z12 : PySem.W.nsIn K mainGlobals "set" = some none)
    (z13 : PySem.W.nsIn K mainGlobals "zip" = some none) (z14 : PySem.W.nsIn K mainGlobals "int" = some none) (z15 : PySem.W.nsIn K mainGlobals "min" = some none) (z16 : PySem.W.nsIn K mainGlobals "repr" = some none)
    (z17 : PySem.W.nsIn K mainGlobals "ValueError" = some none) (z18 : PySem.W.nsIn K mainGlobals "super" = some none) : Blt mg :=
  ⟨PySem.W.mg_none_of X G z1, PySem.W.mg_none_of X G z2, PySem.W.mg_none_of X G z3, PySem.W.mg_none_of X G z4, PySem.W.mg_none_of X G z5, PySem.W.mg_none_of X G z6, PySem.W.mg_none_of X G z7, PySem.W.mg_none_of X G z8, PySem.W.mg_none_of X G z9,
   PySem.W.mg_none_of X G z10, PySem.W.mg_none_of X G z11, PySem.W.mg_none_of X G z12, PySem.W.mg_none_of X G z13, PySem.W.mg_none_of X G z14, PySem.W.mg_none_of X G z15, PySem.W.mg_none_of X G z16, PySem.W.mg_none_of X G z17, PySem.W.mg_none_of X G z18⟩
end Nn

namespace Nn
open PySem PySem.Spec PyProof.Rows L2
/-! ### an error that is caught and kept -/
/-- an error of the class cls, its dict d, at a -/
def ExH (cls : Value) (d : Option Addr) (a : Addr) : HO := .ext fun h => ∃ (o : Obj) (fs : Array Value), h.get? a = some o ∧ Zc cls d o ∧ o.data = .fields fs
theorem exH_ok {P : Program} {w : World} {H : Hp} {h : Heap} {a : Addr} {cls : Value} {d : Option Addr} {o : Obj} {fs : Array Value} (e : h.get? a = some o) (z : Zc cls d o) (f : o.data = .fields fs) : ObjOk P w H h a (ExH cls d a) :=
  ⟨⟨o, fs, e, z, f⟩, ⟨o, e⟩, fun _ _ ⟨o, v, q, r⟩ k => ⟨o, v, k o q, r⟩⟩
section
variable {X : Cx} {pins : List (Addr × Obj)} {σ : L2.St} {H : Hp} {s : Shared}
/-- an object that stands already is tracked from now on; it is newer than the def's entry -/
theorem inv_track {a : Addr} {φ : Heap → Prop} (I : Inv X pins σ H s) (h0 : X.s_0.heap.get? a = none) (na : H a = none) (nL : a ≠ X.env.locals) (nC : ∀ x c, X.env.cells.lookup x = some c → c ≠ a) (nP : ∀ p ∈ X.pn ++ pins, p.1 ≠ a) (new : ObjOk X.prog X.w H s.heap a (.ext φ)) :
    Inv X pins σ (upd H a (.ext φ)) s := by
  have old : ∀ {b : Addr} {o : HO}, H b = some o → upd H a (.ext φ) b = some o := fun {b o} e => by rw [upd_ne (ne_of_none e na)]; exact e
  have non : ∀ {b : Addr}, H b = none → b ≠ a → upd H a (.ext φ) b = none := fun {b} e n => by rw [upd_ne n]; exact e
  refine ⟨I.ok, I.os, I.bare, ⟨I.base.keep, I.base.slot, fun b o e n x => non (I.base.free b o e n x) (fun q => by rw [q, h0] at e; cases e), I.base.there, fun b xs q => old (I.base.tups b xs q), fun b o u q => old (I.base.frzs b o u q), fun b ps q => ?_⟩, I.loc, I.cell, non I.free (Ne.symm nL), fun x c e => non (I.freeC x c e) (nC x c e), fun p hp => ?_, fun b o e => ?_, I.len⟩
  · obtain ⟨m, r⟩ := I.base.tbls b ps q
    exact ⟨m, old r⟩
  · obtain ⟨p1, p2, p3, p4, p5⟩ := I.pin p hp
    exact ⟨p1, non p2 (nP p hp), p3, p4, p5⟩
  · by_cases hb : b = a
    · subst hb
      rw [upd_same] at e
      cases e
      exact new
    · rw [upd_ne hb] at e
      exact (I.hok b o e).stay (fun _ _ _ q => q) (fun _ q => old q) fun _ _ q => old q
end
/-- the wish of a body whose errors are all caught and kept: slot i is the clause's name -/
def wKeep (K : PySem.W.Frag) (c : Value) (i : Nat) (ts : Addr → Value → Option Addr → TS) (D : Ends) : WX := fun cls d σ H =>
  PySem.W.exmOne K cls c = some true ∧ ∀ a, H a = none → ts a cls d { nx := fun σ' H' => H' a = none → D.nx (σ'.set i none) (upd H' a (ExH cls d a)), rt := fun _ _ => False, bk := fun _ _ => False, ct := fun _ _ => False } (σ.set i (some (.ref a))) H
section
variable {X : Cx} {x n : Str} {c : Value} {i : Nat} {body suite : List Stmt} {b₀ : Stmt} {np pos pos' : Pos} {tb : WX → TS} {ts : Addr → Value → Option Addr → TS}
theorem ps_try_keep (hs : X.stack = X.env :: X.outer) (hf : X.env.frame = some X.env.locals) (hN : X.N.Nodup) (hi : X.N[i]? = some n) (hln : X.env.kindOf n = some .local) (hc : Names X x c) (hex : X.ex = [])
    (hb : ∀ (W : WX) (pn : List (Addr × Obj)) (xe : Value → Shared → Prop), Takes (X.tr pn xe) W → PassesOwn (model X.prog X.w) X.A X.env xe → PSs (X.tr pn xe) body (tb W))
    (hsu : ∀ (a : Addr) (oe : Obj) (cls : Value) (d : Option Addr) (pn : List (Addr × Obj)), Zc cls d oe → (∃ vs, oe.data = .fields vs) → PSs (X.suite a ((a, oe) :: pn)) (b₀ :: suite) (ts a cls d)) :
    PS X (.Try body [.ExceptHandler (some (.Name x np)) (some n) (b₀ :: suite) pos'] [] [] pos) (fun D σ H => tb (wKeep X.K c i ts D) D σ H) := by
  refine ⟨fun pins s σ H D I h => wpAny_Try_except ?_⟩
  have frm : X.A.frames = some (X.env :: X.outer) := I.ok.frames.trans (congrArg some hs)
  refine wpAny_mono ((hb (wKeep X.K c i ts D) (X.pn ++ pins) _ ?take PassesOwn.looking).run [] s σ H D (I.toTry _) h) (fun r t pr => ?thru) (fun _ _ z => z)
  case thru =>
    have back : ∀ {w : Value → Shared → Prop} {σ' : L2.St} {H' : Hp}, Inv (X.tr (X.pn ++ pins) w) [] σ' H' t → Inv X pins σ' H' t := fun J => J.ofTry I.ok
    cases r with
    | next => obtain ⟨_, _, J, q⟩ := pr; exact wpAny_execs_nil ⟨_, _, back J, q⟩
    | ret u => obtain ⟨_, _, _, J, ru, q⟩ := pr; exact ⟨_, _, _, back J, ru, q⟩
    | brk => obtain ⟨_, _, J, q⟩ := pr; exact ⟨_, _, back J, q⟩
    | cont => obtain ⟨_, _, J, q⟩ := pr; exact ⟨_, _, back J, q⟩
  case take =>
    rintro u t ⟨a, G, sI, pn', τ, H1, cls, d, rfl, J0, grd, lv, air, na, eos, gb, hm, hsuite⟩
    have J : Inv X pins τ H1 sI := J0.ofTry I.ok
    have air : Sky G (X.env :: X.outer) a (Zc cls d) X.env.locals t.heap := hs ▸ air
    refine Sky.land Zc.steady frm hf air fun g1 fly up1 => ?_
    obtain ⟨o1, f1, e1, z1, d1⟩ := fly.there
    -- the error is no frame, and new
    have aF : a ∉ frs (X.env :: X.outer) := fun hm' => by
      obtain ⟨_, o, e, no⟩ := fly.2.2.1.mem hm'
      rw [e1] at e
      cases e
      exact no _ d1
    have aL : a ≠ X.env.locals := fun q => aF (List.mem_filterMap.mpr ⟨X.env, List.mem_cons_self, hf.trans (congrArg some q.symm)⟩)
    have aS : a ∉ X.fs := fun q => by
      obtain ⟨e, he, r⟩ := List.mem_filterMap.mp q
      exact aF (List.mem_filterMap.mpr ⟨e, List.mem_cons_of_mem _ he, r⟩)
    have aI : sI.heap.get? a = none := by
      cases q : sI.heap.get? a with
      | none => rfl
      | some o =>
        have q2 := grd a o q (hs ▸ aF)
        rw [fly.2.1] at q2
        cases q2
    have a0 : X.s_0.heap.get? a = none := by
      cases q : X.s_0.heap.get? a with
      | none => rfl
      | some o =>
        obtain ⟨o', q2⟩ := J.base.there a o q (by rw [hex]; simp)
        rw [aI] at q2
        cases q2
    have aC : ∀ y k, X.env.cells.lookup y = some k → k ≠ a := fun y k e q => by
      obtain ⟨v, o, q2, _⟩ := J.cell y k e
      rw [q, aI] at q2
      cases q2
    have aP : ∀ p ∈ X.pn ++ pins, p.1 ≠ a := fun p hp q => by
      have q2 := (J.pin p hp).1
      rw [q, aI] at q2
      cases q2
    have J1 : Inv X pins τ H1 { t with heap := g1 } := J.landed grd fly.1 (lv.trans up1) eos gb
    have S1 := J1.suite e1 d1 na aL aS
    have looks : PySem.W.Looks (model X.prog X.w) g1 (typeOf (.ref a)) cls := fun _ _ _ _ k q => wpAny_typeOf_ref (k _ _ e1) (by rw [z1.1]; exact q)
    have matched := PySem.W.exm_one (M := model X.prog X.w) J1.kIn looks hm
    -- the clause names the class
    refine wpAny_handleBy_cons (codeAny_handlers_test ?_) (by intro q; cases q)
    have clause : ∀ {Q : Value → Shared → Prop} {E : Value → Shared → Prop}, Q c { t with heap := g1 } → wpAny (model X.prog X.w) (X.A.mark (some (.ref a))) (eval (.Name x np) X.env) Q E { t with heap := g1 } := fun q => by
      rcases hc with ⟨hg, hd, hv | ⟨hv, hbt, hne⟩⟩
      · exact ld_glob (X := X.suite a ((a, o1) :: (X.pn ++ pins))) S1 hg hv q hd
      · exact ld_blt (X := X.suite a ((a, o1) :: (X.pn ++ pins))) S1 hg hv hbt q hne hd
    refine clause (matched.here (codeAny_handlers_suite_as (HandSPX.lands_againZ fly fun g2 fly2 up2 => ?_)))
    obtain ⟨o2, f2, e2, z2, d2⟩ := fly2.there
    have J2 : Inv X pins τ H1 { t with heap := g2 } := J.landed grd fly2.1 ((lv.trans up1).trans up2) eos gb
    -- the suite, then the name goes; the error stays
    refine store_ok (X := X.suite a ((a, o2) :: (X.pn ++ pins))) (v := .ref a) (J2.suite e2 d2 na aL aS) hN hi (.inl hln) rfl (fun s5 S5 => ?_) (.inr hln)
    refine wpAny_mono ((hsu a o2 cls d (X.pn ++ pins) z2 ⟨_, d2⟩).run [] s5 _ H1 _ S5 (hsuite a na)) (fun fl s6 pr => ?_) (fun _ _ q => False.elim q)
    cases fl with
    | next =>
      obtain ⟨τ6, H6, S6, q6⟩ := pr
      obtain ⟨p1, p2, _⟩ := S6.pin (a, o2) (List.mem_append_left _ List.mem_cons_self)
      exact gone_ok (inv_track (S6.unsuite I.ok) a0 p2 aL aC aP (exH_ok p1 z2 d2)) hN hi hln fun s7 J7 => ⟨_, _, J7, q6 p2⟩
    | ret u => obtain ⟨_, _, _, _, _, q⟩ := pr; exact q.elim
    | brk => obtain ⟨_, _, _, q⟩ := pr; exact q.elim
    | cont => obtain ⟨_, _, _, q⟩ := pr; exact q.elim
end
/-! ### a kept error: isinstance, a field -/
/-- how a kept error stands: its class C, its dict -/
inductive ErrAt (H : Hp) (a C : Addr) : Option Addr → List (Str × V) → Prop where
  | bare (h : H a = some (ExH (.ref C) none a)) : ErrAt H a C none []
  | own {d : Addr} {fs : List (Str × V)} (h : H a = some (ExH (.ref C) (some d) a)) (hd : H d = some (.xd fs)) : ErrAt H a C (some d) fs
theorem ErrAt.inst {X : Cx} {pins : List (Addr × Obj)} {σ : L2.St} {H : Hp} {s : Shared} {a C : Addr} {d : Option Addr} {fs : List (Str × V)} (I : Inv X pins σ H s) (h : ErrAt H a C d fs) : ∃ o od, PySem.W.InstAt s.heap a o C od := by
  cases h with
  | bare h =>
    obtain ⟨⟨o, vs, e, z, f⟩, _⟩ := (show ObjOk X.prog X.w H s.heap a (ExH (.ref C) none a) from I.hok a _ h)
    exact ⟨o, none, e, z.1, by unfold PySem.W.notCls; rw [f] <;> rfl, by rw [z.2] <;> trivial⟩
  | @own d fs h hd =>
    obtain ⟨⟨o, vs, e, z, f⟩, _⟩ := (show ObjOk X.prog X.w H s.heap a (ExH (.ref C) (some d) a) from I.hok a _ h)
    obtain ⟨m, hns, _⟩ := (show ObjOk X.prog X.w H s.heap d (.xd fs) from I.hok d _ hd)
    obtain ⟨od, ho, _⟩ := lookIn_ns hns
    exact ⟨o, some od, e, z.1, by unfold PySem.W.notCls; rw [f] <;> rfl, by rw [z.2]; exact ho⟩
/-- isinstance(e, c), e a kept error -/
def rIsH (K : PySem.W.Frag) : List V → Hp → VK → Prop := fun xs H Q => ∃ (a C : Addr) (d : Option Addr) (fs : List (Str × V)) (c : V) (u : Value) (b : Bool), xs = [.ref a, c] ∧ ClsV c u ∧ ErrAt H a C d fs ∧ ExcC K C ∧ PySem.W.kitOne K (.ref C) u = some b ∧ Q (.bl b) H
theorem call_isH {X : Cx} : CallR X (.builtin "isinstance") (rIsH X.K) := by
  intro pins s σ H xs us Q I r h
  obtain ⟨a, C, d, fs, c, u, b, rfl, k, hE, hC, e, q⟩ := h
  obtain ⟨u1, u2, rfl, r1, r2⟩ := vals2 r
  obtain rfl := k.eq r2
  cases (show u1 = Value.ref a from r1)
  obtain ⟨o, od, J⟩ := hE.inst I
  obtain ⟨cd, hcd, _⟩ := PySem.W.any_some hC.hd
  exact PySem.W.kia_one (PySem.W.kitx_exc (by rw [hcd]; rfl) hC.hg hC.hk hC.hs hC.ha hC.hn hC.ht hC.hm) I.kIn J e (fun z => nomatch z) fun tk => ⟨.bl b, H, I.tok tk, rfl, q⟩
/-- e.f, e a kept error -/
def tFldH (K : PySem.W.Frag) (te : TE) (f : Str) : TE := fun σ H Q => te σ H fun x H1 => ∃ (a C d : Addr) (fs : List (Str × V)) (v : V), x = .ref a ∧ ErrAt H1 a C (some d) fs ∧ ExcC K C ∧ PySem.W.findIn K (.ref C) f = some none ∧ fs.lookup f = some v ∧ Q v H1
theorem pe_fldH {X : Cx} {e : Expr} {te : TE} {f : Str} {pos : Pos} (he : PE X e te) (hb : attributeBase e f X.env (eval e X.env) = eval e X.env) : PE X (.Attribute e f pos) (tFldH X.K te f) := by
  refine ⟨fun pins s σ H Q I h => attr_of hb (thn (he.run pins s σ H _ I h) fun u s1 hh => ?_)⟩
  obtain ⟨x, H1, I1, rx, a, C, d, fs, v, rfl, hE, hC, hn, hl, q⟩ := hh
  obtain rfl : u = Value.ref a := rx
  cases hE with
  | own h hd =>
    obtain ⟨⟨o, vs, e1, z, fl⟩, _⟩ := (show ObjOk X.prog X.w H1 s1.heap a (ExH (.ref C) (some d) a) from I1.hok a _ h)
    obtain ⟨m, hns, hr⟩ := (show ObjOk X.prog X.w H1 s1.heap d (.xd fs) from I1.hok d _ hd)
    obtain ⟨od, ho, hlk⟩ := lookIn_ns hns
    obtain ⟨u, hu, ru⟩ := RelO.some_of (v := v) (o := m f) (by rw [← hl]; exact hr f)
    have J : PySem.W.InstAt s1.heap a o C (some od) := ⟨e1, z.1, by unfold PySem.W.notCls; rw [fl] <;> rfl, by rw [z.2]; exact ho⟩
    exact HandSPX.exc_get I1.kIn J hC.hg hC.hk hC.hs (PySem.W.findObj_own hC.hd hn rfl (by rw [hlk, hu])) (handed_of ru) ⟨v, H1, I1.tok _, ru, q⟩
end Nn

namespace Nn
open PySem PySem.Spec PyProof.Rows L2
/-! ### an own error over an own error over ValueError, whose __init__ says super().__init__(e); self.f = v -/
/-- what the written part says of the class -/
structure SupC (K : PySem.W.Frag) (C : Addr) : Prop where
  own : OexC K C
  sup : PySem.W.ks_superIn K C C "__init__" = some (some (.builtin "ValueError.__init__"))
  sub : PySem.W.mroIn K C (.ref C) = some true
  val : PySem.W.subIn K (.ref C) (.type "ValueError") = some true
  sta : PySem.W.nsIn K PySem.cStatics "thirdparty.any" = some none
/-- .. and of its __init__ -/
structure SFun (prog : Program) (K : PySem.W.Frag) (C : Addr) (x qual : Str) (st : Stmt) (f : Addr) (fd : FuncData) : Prop where
  ex : ∃ (oc kV doc pm ct ccl cl : Value) (od an cdd cld : Option Addr) (cda cc : Addr) (osl ccs csl : Array (Option Value)) (vs : Array Value) (file : Str) (tf : Tok),
    fd = PySem.W.fnX x qual (defArgs st) (defBody st) (defScope st) [("__class__", cc)] .none kV doc pm an (.ref cda) ct ∧ K.lookup f = some ⟨oc, od, .func fd, osl⟩ ∧ PySem.W.codeIn K (.ref cda) qual = true ∧
    K.lookup cda = some ⟨ccl, cdd, .fields vs, ccs⟩ ∧ vs[2]? = some (.str file tf) ∧ ((prog.main.file : Str) == file) = true ∧ K.lookup cc = some ⟨cl, cld, .cell (some (.ref C)), csl⟩
  kp : PySem.W.keepIn K (.ref f) = true
theorem SFun.binds {prog : Program} {K : PySem.W.Frag} {C : Addr} {x qual : Str} {st : Stmt} {f : Addr} {fd : FuncData} {ps : List Str} (F : SFun prog K C x qual st f fd)
    (h : ∀ (cc : Addr) (kV doc pm : Value) (an : Option Addr) (cdv ct : Value) (us : List Value), us.length = ps.length → bindArgs (PySem.W.fnX x qual (defArgs st) (defBody st) (defScope st) [("__class__", cc)] .none kV doc pm an cdv ct) ⟨us, []⟩ = pure (ps.zip us)) : Binds K fd ps [] := by
  obtain ⟨oc, kV, doc, pm, ct, ccl, cl, od, an, cdd, cld, cda, cc, osl, ccs, csl, vs, file, tf, rfl, _⟩ := F.ex
  exact .all (h cc kV doc pm an (.ref cda) ct)
section
variable {X : Cx} {pins : List (Addr × Obj)} {σ : L2.St} {H : Hp} {s : Shared} {a C u : Addr} {us : List Value} {Q : Value → Shared → Prop} {E : Value → Shared → Prop} {A : Around}
/-- ValueError.__init__, bound to the error, called -/
theorem mw_call (T : SupC X.K C) (I : Inv X pins σ H s) (e : H a = some (exo a C none)) (hu : s.heap.get? u = some (PySem.W.kxs_mw "ValueError.__init__" a)) (hl : us.length ≤ sizeLine)
    (h : ∀ s', Inv X pins σ H s' → Q .none s') : wpAny (model X.prog X.w) A (call (.ref u) us) Q E s := by
  obtain ⟨nm, q, N, bs, bm, sn, sub, ab, col, dd, k0, k1, k2, k3, k5, hC, hbm⟩ := T.own.cls
  obtain ⟨t1, ho⟩ := exo_at I.hok e
  obtain ⟨hp, g, d, t, os⟩ := s
  refine wpAny_call (codeAny_of_tree ?_)
  show wpAny _ A.in1 (callAny (.ref u) ⟨us, []⟩) _ _ _
  simp only [callAny]
  refine wpAny_bind (wpAny_load hu ?_)
  simp only [PySem.W.kxs_mw]
  rw [if_pos (show (Value.type "method-wrapper" == Value.type "method" || Value.type "method-wrapper" == Value.type "builtin_function_or_method" || Value.type "method-wrapper" == Value.type "method-wrapper") = true by decide)]
  refine PySem.W.KFB.if_so (by decide) ?_
  refine wpAny_bind (PySem.W.check_bound_init F.excBase_ValueError.toExcCallFacts (I.kIn _ _ hC) ho rfl ?_)
  refine wpAny_bind (wpAny_pure (wpAny_pure ?_))
  refine ⟨plainId_quiet F.excBase_ValueError.init.plain _, codeAny_builtin F.excBase_ValueError.initEntry ?_⟩
  refine PySem.W.exc_init_tree (cls := .ref C) (t0 := t1) (dv := none) (c2 := .none) (c3 := .none) (b4 := .bool false) ho hl fun h' k hx _ => ?_
  have J := I.write (t' := t) (x := a) (e := a) (o := exo a C none) (by rw [e]; exact True.intro) (.inl rfl) k ⟨_, hx⟩ (exo_ok hx)
  rw [show upd H a (exo a C none) = H from funext fun b => by
    by_cases hb : b = a
    · rw [hb, upd_same, e]
    · rw [upd_ne hb]] at J
  exact h _ J
end
/-- the promise of such an __init__ -/
def spSup (C : Addr) (N : List Str) (fld : Str) (te : TE) : Sp := fun vs H Q _ => ∃ (a : Addr) (y : V), vs = [.ref a, y] ∧ H a = some (exo a C none) ∧
  tCons te tNil (NdefX.startF N vs [none]) H fun ms H1 => ms.length ≤ 1000 ∧ H1 = H ∧ ∀ dx, H dx = none → dx ≠ a → Q .non (upd (upd H dx (exd dx [(fld, y)])) a (exo a C (some dx)))
theorem sup_ok {P : Program} {w : World} {K : PySem.W.Frag} {mg : Str → Option Value} {base : Heap} {CX : CXT} {k : Nat} {x qual fld v : Str} {st : Stmt} {f C : Addr} {fd : FuncData} {N : List Str} {e : Expr} {te : TE} {p0 p1 ap pos pos2 p3 p4 p5 pos6 : Pos} {ar : Arg} {pl : Env → Sem Bool}
    (F : SFun P K C x qual st f fd) (T : SupC K C) (S : NdefX.NScope N ["self", v] ["__class__"] (defScope st)) (hm : mg "super" = none) (hno : PySem.W.findIn K (.ref C) fld = some none)
    (hst : defBody st = [.Expr (.Call (.Attribute (.Call (.Name "super" p0) [] [] p1) "__init__" ap) [e] [] pos) pos2, .Assign [.Attribute (.Name "self" p3) fld p4] (.Name v p5) pos6])
    (he : ∀ (A : Around) (outer : List Env) (s : Shared) (H : Hp) (E : XK) (cc cda : Addr), Room k (A.deeper (NdefX.envF ⟨x, qual, defArgs st, defBody st, defScope st, [("__class__", cc)], cda⟩ f s.heap.objs.size)) → PE (NdefX.ncx CX P w K mg base N ⟨x, qual, defArgs st, defBody st, defScope st, [("__class__", cc)], cda⟩ f A outer s H E) e te)
    (hs : ∀ env, starEach [e] env = (false, eval e env) :: starEach [] env)
    (hk1 : (defScope st).names.lookup ("super" : Str) = some .globalImplicit) (hk2 : (defScope st).names.lookup ("__class__" : Str) = some .free) (htop : (P.main.scope.names.lookup ("super" : Str)).isSome = false)
    (hp : ((defArgs st).posonlyargs ++ (defArgs st).args).head? = some ar) (har : ar.arg = "self") (hN0 : N[0]? = some ("self" : Str)) (hN1 : N[1]? = some v) (hv1 : (v == ("__debug__" : Str)) = false) (hv2 : (v == ("__classdict__" : Str)) = false)
    (hcall : ∀ env, eval (.Call (.Attribute (.Call (.Name "super" p0) [] [] p1) "__init__" ap) [e] [] pos) env = (do
      let ov ← attributeBase (.Call (.Name "super" p0) [] [] p1) "__init__" env (eval (.Call (.Name "super" p0) [] [] p1) env)
      standAt ap.atName
      let (f, first) ← holding [ov] (getMethod ov "__init__" (pl env))
      callWith pos f first (backTo pos (starEach [e] env)) []))
    (hint : ∀ env : Env, env.scope = defScope st → interactive env = false) (hsw : ∀ env, swapsWith (.Call (.Attribute (.Call (.Name "super" p0) [] [] p1) "__init__" ap) [e] [] pos) none pos2.line env = pure false) :
    FnOk P w K mg base CX (k + 1) f fd ["self", v] (spSup C N fld te) := by
  refine ⟨fun vs H Q E h => by obtain ⟨a, y, rfl, _⟩ := h; rfl, fun A outer s H args us vs Q E hr e0 hb r hsp => ?_⟩
  obtain ⟨a, y, rfl, ha, hq⟩ := hsp
  obtain ⟨oc, kV, doc, pm, ct, ccl, cl, od, an, cdd, cld, cda, cc, osl, ccs, csl, vs, file, tf, rfl, lk, hcd, lcd, hvs, hfile, lcc⟩ := F.ex
  have KX : K.In s.heap := e0.mod.kin.keeps fun b o e => (e0.bs b o e).1
  have lim : s.heap.NoLimit := e0.mod.nolimit.keeps fun b o e => (e0.bs b o e).1
  have hcc : H cc = none := (e0.bs _ _ (e0.mod.kin _ _ lcc)).2
  cases r with
  | @cons _ u0 _ ur r0 r' =>
  obtain rfl : u0 = Value.ref a := r0
  cases r' with
  | @cons _ u1 _ ur' r1 r'' =>
  cases r''
  have hC0 : NdefX.CellsAt [("__class__", cc)] ["__class__"] [none] s.heap H := by
    refine ⟨rfl, fun y c hc => ?_, fun x y c h1 h2 => ?_, fun i y hy => ?_⟩
    · have : c = cc := by
        simp only [List.lookup] at hc
        split at hc
        · exact (Option.some.inj hc).symm
        · cases hc
      subst this
      exact ⟨hcc, _, _, KX _ _ lcc, rfl⟩
    · have g : ∀ z : Str, List.lookup z [("__class__", cc)] = some c → z = "__class__" := fun z hz => by
        simp only [List.lookup] at hz
        split at hz
        · rename_i q
          exact by simpa using q
        · cases hz
      rw [g x h1, g y h2]
    · cases i with
      | zero =>
        cases hy
        exact ⟨cc, by simp [List.lookup], fun v hv => by cases hv⟩
      | succ i => cases hy
  refine codeAny_call_function hr.depth (KX _ _ lk) rfl S.co S.gen rfl (PySem.W.codeRec_of KX hcd) (hb _ _ _ _ ?_)
  refine wpAny_newFunctionEnv S.nocell (fun ⟨n, _⟩ hy => S.par n (List.of_mem_zip hy).1) (fun h₁ hns hsb => ⟨lim.fresh _ hsb, ?_⟩) S.kind
  show codeAny _ _ (.func (defBody st) (NdefX.envF ⟨x, qual, defArgs st, defBody st, defScope st, [("__class__", cc)], cda⟩ f s.heap.objs.size)) _ _
  refine ks_codeAny_funcAt ?_
  have kp : ∀ b o, s.heap.get? b = some o → h₁.get? b = some o := fun b o e => hsb.extBut b o (Nat.ne_of_lt (Heap.lt_size e)) (Heap.get?_push_of_some _ e)
  have I : L2.Inv (NdefX.ncx CX P w K mg base N ⟨x, qual, defArgs st, defBody st, defScope st, [("__class__", cc)], cda⟩ f A outer s H E) [] (NdefX.startF N [.ref a, y] [none]) H { s with heap := h₁, toks := s.toks + ((["self", v] : List Str).zip [Value.ref a, u1]).length } :=
    NdefX.inv_startN (us := [Value.ref a, u1]) S hr.hd e0 rfl (.cons (show L2.RelV (.ref a) (.ref a) from rfl) (.cons r1 .nil)) hC0 hns kp
  rw [hst]
  obtain ⟨nm, q, N', bs, bm, sn, sub, ab, col, dd, k0, k1, k2, k3, k5, hC, hbm⟩ := T.own.cls
  have hcl : PySem.W.clsIn K C = some { name := nm, bases := bs, mro := .ref C :: bm, ns := N', qualname := q, hasDict := true, slotNames := sn, subclasses := sub, abstract := ab, collection := col, hasDel := false } := by unfold PySem.W.clsIn; rw [hC] <;> rfl
  have hKs : ∀ z, s.heap.get? C = some z → h₁.get? C = some z := fun z => kp _ _
  obtain ⟨t1, hx⟩ := exo_at I.hok ha
  have hself : ((["self", v] : List Str).zip [Value.ref a, u1]).reverse.lookup ("self" : Str) = some (.ref a) := by
    have nd : (["self", v] : List Str).Nodup := by
      have := S.nd.sublist (List.take_sublist (2 + 1) N)
      rw [show N.take (2 + 1) = (["self", v] : List Str) ++ (["__class__"] : List Str) from S.pre] at this
      exact (List.nodup_append.mp this).1
    exact NdefX.zip_look (i := 0) nd rfl rfl
  refine ks_wpAt_execs_cons (ks_wpAt_Expr_any (ks_wpAt_MethodCall (pl := pl _) ?_ (hcall _)) (hint _ rfl) (hsw _))
  refine ks_wpAt_super_base hk1 hk2 (by decide) rfl (kp _ _ (KX _ _ lk)) rfl hp rfl (kp _ _ (KX _ _ lcd)) rfl hvs hfile htop ?_
  refine PySem.W.ks_loadName_global S.kind hk1 ?_
  obtain ⟨mb, b1, b2⟩ := e0.mod.blt
  refine Calls.loadGlobal_builtin (e0.mod.glob.keeps I.bk) hm (b1.keeps I.bk) ((b2 _ (by decide)).trans PyProof.Rows.Boot.«super») ⟨rfl, ?_⟩
  refine wpAny_loadName_free S.kind hk2 rfl ⟨_, kp _ _ (KX _ _ lcc), rfl⟩ ?_
  rw [har]
  refine wpAny_loadName_local S.kind (S.par _ (by simp)) hns hself ?_
  refine ks_wpAny_isType_cls (kp _ _ (KX _ _ hC)) rfl ⟨rfl, ?_⟩
  refine ks_wpAny_call_super (kp _ _ (KX _ _ hC)) rfl hx rfl (fun c z => nomatch z) (PySem.W.looks_mroIn I.kIn T.sub) fun h2 e2 k2 => ?_
  have I2 := I.kept (t' := s.toks + ((["self", v] : List Str).zip [Value.ref a, u1]).length) k2
  have IA : PySem.W.InstAt h2 a _ C none := ⟨k2 _ _ hx, rfl, rfl, trivial⟩
  refine PySem.W.kxs_getMethod PySem.W.kxs_ValueError e2 (PySem.W.looks_opaque I2.kIn T.sta) ((PySem.W.looks_clsIn I2.kIn hcl).andThen .now) rfl I2.kIn ?hf (IA.type.andThen (PySem.W.looks_subIn I2.kIn T.val)) (PySem.W.ks_ne I2.kIn IA hcl) (by decide) ?_
  case hf =>
    have q := T.sup
    unfold PySem.W.ks_superIn at q
    rw [hcl] at q
    exact q
  have k3 : ∀ b o, h2.get? b = some o → (h2.push (PySem.W.kxs_mw "ValueError.__init__" a)).get? b = some o := fun b o e => Heap.get?_push_of_some _ e
  have I3 := I2.kept (t' := s.toks + ((["self", v] : List Str).zip [Value.ref a, u1]).length + 1) k3
  have hu : (h2.push (PySem.W.kxs_mw "ValueError.__init__" a)).get? h2.objs.size = some (PySem.W.kxs_mw "ValueError.__init__" a) := Heap.get?_push_size _ rfl
  have I4 := I3.pins_of (pins' := [(h2.objs.size, PySem.W.kxs_mw "ValueError.__init__" a)]) fun p hp => by
    obtain rfl := List.mem_singleton.mp hp
    exact ⟨hu, I2.hok.fresh (Nat.le_refl _), Nat.ne_of_gt I2.lt, I2.nofs (Nat.le_refl _), fun v z => nomatch z⟩
  rw [hs]
  refine PySem.W.kxs_callWith (i := "ValueError.__init__") (x := a) rfl (PySem.Calls.evalArgs_plain ?_)
  have pa := pa_cons (he A outer s H E cc cda (hr.deeper _)) pa_nil (hs _)
  have go := pa.run pos _ _ _ _ _ I4 hq
  rw [hs] at go
  refine thn go fun us s5 ⟨vs, H5, I5, r5, hl5, eH, hend⟩ => ?_
  rw [eH] at I5
  have hu5 := (I5.pin (h2.objs.size, PySem.W.kxs_mw "ValueError.__init__" a) (by simp)).1
  refine ⟨hu5, mw_call T I5 ha hu5 (by show us.length ≤ sizeLine; rw [← r5.length]; exact Nat.le_trans hl5 (by decide)) fun s6 I6 => ?_⟩
  refine wpAt_of_wpAny ?_
  have ps : PSs (NdefX.ncx CX P w K mg base N ⟨x, qual, defArgs st, defBody st, defScope st, [("__class__", cc)], cda⟩ f A outer s H E) [.Assign [.Attribute (.Name "self" p3) fld p4] (.Name v p5) pos6] _ :=
    pss_one (ps_ost (pe_var (i := 0) hN0 (.inl (S.par _ (by simp))) (by decide) (by decide)) (pe_var (i := 1) hN1 (.inl (S.par _ (by simp))) hv1 hv2))
  refine wpAny_mono (ps.run _ _ _ _ { nx := fun _ H' => Q .non H', rt := Q } I6 ?ost) (fun fl s' hs => ?_) fun e s' hs => hs
  case ost => exact ⟨y, rfl, .ref a, rfl, a, C, rfl, T.own, hno, .inl ⟨ha, fun dx n ne => hend dx n ne⟩⟩
  have fin : ∀ {σ' : L2.St} {H' : Hp} {v' : V} {u : Value} {pn : List (Addr × Obj)}, L2.Inv (NdefX.ncx CX P w K mg base N ⟨x, qual, defArgs st, defBody st, defScope st, [("__class__", cc)], cda⟩ f A outer s H E) pn σ' H' s' → L2.RelV v' u → Q v' H' → CE outer P w H s Q u s' :=
    fun {σ' H' v' u pn} J rv q => ⟨v', H', J.os, J.bare, J.base, J.hok, rv, q⟩
  cases fl with
  | ret u =>
    obtain ⟨v', σ', H', J, rv, q⟩ := hs
    exact fin J rv q
  | next =>
    obtain ⟨σ', H', J, q⟩ := hs
    exact fin (v' := V.non) (u := Value.none) J rfl q
  | brk =>
    obtain ⟨_, _, _, q⟩ := hs
    exact False.elim q
  | cont =>
    obtain ⟨_, _, _, q⟩ := hs
    exact False.elim q
end Nn

namespace Nn
open PySem PySem.Spec PyProof.Rows L2
/-! ### defs, classes and methods of the text that may raise -/
structure ClX (P : Program) (w : World) (K : PySem.W.Frag) (mg : Str → Option Value) (base : Heap) (k : Nat) (x : Str) (sp : Sp) : Prop where
  ex : ∃ (f : Addr) (fd : FuncData) (ps : List Str), FnOk P w K mg base (L2.CX P w) k f fd ps sp ∧ mg x = some (.ref f) ∧ PySem.W.keepIn K (.ref f) = true ∧ Binds K fd ps []
structure MrX (P : Program) (w : World) (K : PySem.W.Frag) (mg : Str → Option Value) (base : Heap) (k : Nat) (x : Str) (C : Addr) (sp : Sp) : Prop where
  ex : ∃ (f : Addr) (fd : FuncData) (ps : List Str), Mk K C f ∧ FnOk P w K mg base (L2.CX P w) k f fd ps sp ∧ mg x = some (.ref C) ∧ Binds K fd ps []
structure MtX (P : Program) (w : World) (K : PySem.W.Frag) (mg : Str → Option Value) (base : Heap) (k : Nat) (C : Addr) (m : Str) (sp : Sp) : Prop where
  ex : ∃ (f : Addr) (fd : FuncData) (ps : List Str), Cls K C ∧ Meth K C m f ∧ FnOk P w K mg base (L2.CX P w) k f fd ps sp ∧ Binds K fd ps []
section
variable {P : Program} {w : World} {K : PySem.W.Frag} {mg : Str → Option Value} {base : Heap} {j k f C : Addr} {fd : FuncData} {ps : List Str} {sp : Sp} {x m : Str}
end
def tMakeS (C : Addr) (sp : Sp) (E : L2.St → XK) (t : TA) : TE := fun σ H Q => t σ H fun vs H1 => ∀ x dx, H1 x = none → H1 dx = none → dx ≠ x → sp (.ref x :: vs) (upd (upd H1 dx (.own x)) x (.ins C dx [])) (fun v H2 => v = .non ∧ Q (.ref x) H2) (E σ)
def tMethS (C : Addr) (m : Str) (sp : Sp) (E : L2.St → XK) (ta : TE) (t : TA) : TE := fun σ H Q => ta σ H fun x H1 => ∃ a dx fs, x = .ref a ∧ H1 a = some (.ins C dx fs) ∧ fs.lookup m = none ∧ t σ H1 fun vs H2 => sp (x :: vs) H2 Q (E σ)
section
variable {X : Cx} {W : WX} {j k : Nat} {C : Addr} {x m : Str} {sp : Sp} {p pos apos : Pos} {e o : Expr} {es : List Expr} {ta : TE} {t : TA}
theorem pe_clX (tk : Takes X W) (c : ClX X.prog X.w X.K X.mg X.base k x sp) (hr : Room j X.A) (hk : k ≤ j) (hg : Gl X x) (ha : PA X (e :: es) t)
    (hdb : (x == ("__debug__" : Str)) = false := by decide) (he : starEach (e :: es) X.env = (false, eval e X.env) :: starEach es X.env := by rfl) (hpl : (backTo pos (starEach es X.env)).any (·.1) = false := by rfl) :
    PE X (.Call (.Name x p) (e :: es) [] pos) (tCallS sp (WE W) t) := by
  obtain ⟨f, fd, ps, F, hm, kp, b⟩ := c.ex
  exact pe_callS F (hr.mono hk) hg hm kp b (passAt tk) ha hdb he hpl
/-- a class called whose __init__ may raise -/
theorem makeS_run {pins : List (Addr × Obj)} {σ : L2.St} {H : Hp} {s : Shared} {Q : VK} {us : List Value} {vs : List V} (c : MrX X.prog X.w X.K X.mg X.base k x C sp) (hr : Room j X.A) (hk : k + 1 ≤ j) {E : XK} (hx : PassesAt (L2.CX X.prog X.w) X σ E)
    (I : Inv X pins σ H s) (r : Vals vs us) (h : ∀ x dx, H x = none → H dx = none → dx ≠ x → sp (.ref x :: vs) (upd (upd H dx (.own x)) x (.ins C dx [])) (fun v H2 => v = .non ∧ Q (.ref x) H2) E) :
    wpAny (model X.prog X.w) X.A (call (.ref C) us) (EP X pins σ Q) X.xe s := by
  obtain ⟨f, fd, ps, M, F, hm, b⟩ := c.ex
  have n : s.heap.objs.size ≠ s.heap.objs.size + 1 := Nat.ne_of_lt (Nat.lt_succ_self _)
  have go := h (s.heap.objs.size + 1) s.heap.objs.size (I.hok.fresh (Nat.le_succ _)) (I.hok.fresh (Nat.le_refl _)) n
  have J : Inv X pins σ _ _ := Inv.made (C := C) I
  have rr : Vals (V.ref (s.heap.objs.size + 1) :: vs) (Value.ref (s.heap.objs.size + 1) :: us) := .cons (show L2.RelV (.ref _) (.ref _) from rfl) r
  have hlen : (Value.ref (s.heap.objs.size + 1) :: us).length = ps.length := rr.length.symm.trans (F.len _ _ _ _ go)
  have bd := b _ (Value.ref (s.heap.objs.size + 1) :: us) J.kIn (by rw [List.append_nil]; exact hlen)
  rw [List.append_nil] at bd
  refine wpAny_call (make_map (f := f) I.kIn M.makes M.init (beq_iff_eq.mp M.fn) (codeAny_mono (F.run _ X.stack _ _ ⟨Value.ref (s.heap.objs.size + 1) :: us, []⟩ _ _ _ E ((hr.mono hk).make C us []) (J.env0.make C us []) bd rr go) fun fl s' q => ?_))
  match fl, q with
  | .error er, q => exact hx pins _ _ er s' J q
  | .ok (.ret u), q =>
    obtain ⟨v, H', J', rv, ev, q3⟩ := J.after q
    subst ev
    exact ⟨rv, V.ref (s.heap.objs.size + 1), H', J', rfl, q3⟩
  | .ok .next, q => exact False.elim q
  | .ok .brk, q => exact False.elim q
  | .ok .cont, q => exact False.elim q
theorem pe_mrX (tk : Takes X W) (c : MrX X.prog X.w X.K X.mg X.base k x C sp) (hr : Room j X.A) (hk : k + 1 ≤ j) (hg : Gl X x) (ha : PA X (e :: es) t)
    (hdb : (x == ("__debug__" : Str)) = false := by decide) (he : starEach (e :: es) X.env = (false, eval e X.env) :: starEach es X.env := by rfl) (hpl : (backTo pos (starEach es X.env)).any (·.1) = false := by rfl) :
    PE X (.Call (.Name x p) (e :: es) [] pos) (tMakeS C sp (WE W) t) := by
  obtain ⟨f, fd, ps, M, F, hm, b⟩ := c.ex
  exact ⟨fun pins s σ H Q I h => wpAny_Call_Name_kw (ld_glob I hg hm (PySem.W.callWith_K (h₀ := X.base) I.ok.mod.kin M.kp (thn (ha.run pos pins s σ H _ I h) fun us s1 ⟨vs, H1, I1, r, q⟩ =>
    ⟨I1.kIn, makeS_run c hr hk (passAt tk σ) I1 r q⟩) he hpl) hdb)⟩
theorem pe_meX {pl : Sem Bool} (tk : Takes X W) (c : MtX X.prog X.w X.K X.mg X.base k C m sp) (hr : Room j X.A) (hk : k ≤ j) (he : PE X o ta) (ha : PA X (e :: es) t)
    (hst : starEach (e :: es) X.env = (false, eval e X.env) :: starEach es X.env := by rfl) (hpl : (backTo pos (starEach es X.env)).any (·.1) = false := by rfl)
    (ht : eval (.Call (.Attribute o m apos) (e :: es) [] pos) X.env = (do
      let ov ← eval o X.env
      standAt apos.atName
      let (f, first) ← holding [ov] (getMethod ov m pl)
      callWith pos f first (backTo pos (starEach (e :: es) X.env)) (backToKw pos (keywordEach [] X.env))) := by rfl) :
    PE X (.Call (.Attribute o m apos) (e :: es) [] pos) (tMethS C m sp (WE W) ta t) := by
  obtain ⟨f, fd, ps, hc, hm, F, b⟩ := c.ex
  refine ⟨fun pins s σ H Q I h => PySem.W.methodCall_KW (pl := pl) (thn (he.run pins s σ H _ I h) fun u s1 ⟨v, H1, I1, rv, a, dx, fs, ev, ea, l, q⟩ => ?_) ht⟩
  subst ev
  obtain rfl : u = Value.ref a := rv
  exact getmeth_ok I1 ea hc hm l (PySem.W.callWith_K (first := [.ref a]) (h₀ := X.base) I.ok.mod.kin hm.kp (thn (ha.run pos pins s1 σ H1 _ I1 q) fun us s2 ⟨vs, H2, I2, r, q2⟩ =>
    ⟨I2.kIn, run_fnS (E := WE W) (us := .ref a :: us) (vs := .ref a :: vs) F (hr.mono hk) b (passAt tk σ) I2 (.cons (show L2.RelV (.ref a) (.ref a) from rfl) r) q2⟩) hst hpl)
theorem pe_me0X {pl : Sem Bool} (tk : Takes X W) (c : MtX X.prog X.w X.K X.mg X.base k C m sp) (hr : Room j X.A) (hk : k ≤ j) (he : PE X o ta)
    (ht : eval (.Call (.Attribute o m apos) [] [] pos) X.env = (do
      let ov ← eval o X.env
      standAt apos.atName
      let (f, first) ← holding [ov] (getMethod ov m pl)
      callWith pos f first (backTo pos (starEach [] X.env)) (backToKw pos (keywordEach [] X.env))) := by rfl) :
    PE X (.Call (.Attribute o m apos) [] [] pos) (tMethS C m sp (WE W) ta tNil) := by
  obtain ⟨f, fd, ps, hc, hm, F, b⟩ := c.ex
  refine ⟨fun pins s σ H Q I h => PySem.W.methodCall_KW (pl := pl) (thn (he.run pins s σ H _ I h) fun u s1 ⟨v, H1, I1, rv, a, dx, fs, ev, ea, l, q⟩ => ?_) ht⟩
  subst ev
  obtain rfl : u = Value.ref a := rv
  exact getmeth_ok I1 ea hc hm l (PySem.W.callWith_K0 (first := [.ref a]) I1.kIn hm.kp (run_fnS (E := WE W) (us := [.ref a]) (vs := [.ref a]) F (hr.mono hk) b (passAt tk σ) I1 (.cons (show L2.RelV (.ref a) (.ref a) from rfl) .nil) q))
end
section
variable {σ : L2.St} {H : Hp} {Q : VK} {ta te : TE} {t : TA} {C : Addr} {sp : Sp} {E : L2.St → XK} {m : Str} {K : PySem.W.Frag} {f : Str}
theorem rd_callS (k : t σ H fun vs H1 => sp vs H1 Q (E σ)) : tCallS sp E t σ H Q := k
theorem rd_makeS (k : t σ H fun vs H1 => ∀ x dx, H1 x = none → H1 dx = none → dx ≠ x → sp (.ref x :: vs) (upd (upd H1 dx (.own x)) x (.ins C dx [])) (fun v H2 => v = .non ∧ Q (.ref x) H2) (E σ)) : tMakeS C sp E t σ H Q := k
theorem rd_methS (k : ta σ H fun x H1 => ∃ a dx fs, x = .ref a ∧ H1 a = some (.ins C dx fs) ∧ fs.lookup m = none ∧ t σ H1 fun vs H2 => sp (x :: vs) H2 Q (E σ)) : tMethS C m sp E ta t σ H Q := k
theorem rd_fldH (k : te σ H fun x H1 => ∃ (a C d : Addr) (fs : List (Str × V)) (v : V), x = .ref a ∧ ErrAt H1 a C (some d) fs ∧ ExcC K C ∧ PySem.W.findIn K (.ref C) f = some none ∧ fs.lookup f = some v ∧ Q v H1) : tFldH K te f σ H Q := k
end
/-! ### the seven refusals -/
inductive Flt where
  | name | twice (z : Str) | missing (z : Str) | held (z : Str) | letgo (z : Str) | spare (zs : List Str) | row (n : Int)
/-- the classes -/
structure ErrCs where
  name : Addr
  twice : Addr
  missing : Addr
  held : Addr
  letgo : Addr
  spare : Addr
  row : Addr
def Flt.cls (Cs : ErrCs) : Flt → Addr
  | .name => Cs.name
  | .twice _ => Cs.twice
  | .missing _ => Cs.missing
  | .held _ => Cs.held
  | .letgo _ => Cs.letgo
  | .spare _ => Cs.spare
  | .row _ => Cs.row
/-- the field that an error has -/
def fN (x : Str) (v : V) : List (Str × V) := [(x, v)]
def fldIs (H : Hp) : Flt → List (Str × V) → Prop
  | .name, fs => fs = []
  | .twice z, fs => fs = fN "name" (V.str z)
  | .missing z, fs => fs = fN "name" (V.str z)
  | .held z, fs => fs = fN "name" (V.str z)
  | .letgo z, fs => fs = fN "name" (V.str z)
  | .spare zs, fs => ∃ t, fs = fN "ring" (V.ref t) ∧ H t = some (.tup (zs.map V.str))
  | .row n, fs => fs = fN "row" (V.int n)
/-- the error is out: what stood stands, its dict is new -/
def Thrown (Cs : ErrCs) (N : List Addr) (H : Hp) (E : XK) (x : Flt) : Prop :=
  match x with
  | .name => ∀ H', Kp N H H' → E (.ref Cs.name) none H'
  | x => ∀ d fs H', H d = none → Kp N H H' → H' d = some (.xd fs) → fldIs H' x fs → E (.ref (x.cls Cs)) (some d) H'
/-- an error that is kept at a -/
def ErrIs (Cs : ErrCs) (H : Hp) (a : Addr) (x : Flt) : Prop := ∃ d fs, ErrAt H a (x.cls Cs) d fs ∧ fldIs H x fs ∧ (x ≠ .name → d ≠ none)
end Nn
namespace Nn
open PySem PySem.Spec PyProof.Rows L2
/-! ### the errors made -/
/-- what an error's field takes: a short text; a tuple of short texts; a number that is not vast -/
def okT : V → Hp → Prop := fun y _ => ∃ z : Str, y = .str z ∧ z.length ≤ 100000
def okI : V → Hp → Prop := fun y _ => ∃ i : Int, y = .int i ∧ i.natAbs.log2 < 1920
def okR (K : PySem.W.Frag) : V → Hp → Prop := fun y H => ∃ (t : Addr) (l : List Str), y = .ref t ∧ SqT K H t (l.map V.str) ∧ (∀ z ∈ l, ∀ c ∈ z.cps.toList, c < 16 ^ 8) ∧ fmtCost l ≤ 100000
def spErr (C : Addr) (fld : Str) (ok : V → Hp → Prop) : Sp := fun vs H Q _ => ∃ (a : Addr) (y : V), vs = [.ref a, y] ∧ ok y H ∧ H a = some (exo a C none) ∧ ∀ dx, H dx = none → dx ≠ a → Q .non (upd (upd H dx (exd dx [(fld, y)])) a (exo a C (some dx)))
/-- X(e), as the text's class with its own __init__ makes it -/
structure ErrMk (P : Program) (w : World) (K : PySem.W.Frag) (mg : Str → Option Value) (base : Heap) (k : Nat) (x : Str) (C : Addr) (fld : Str) (ok : V → Hp → Prop) : Prop where
  ex : ∃ (f : Addr) (fd : FuncData) (ps : List Str), OexC K C ∧ PySem.W.findIn K (.ref C) "__init__" = some (some (.ref f)) ∧ PySem.W.typeIn K (.ref f) = some (.type "function") ∧ FnOk P w K mg base CX0 k f fd ps (spErr C fld ok) ∧ Binds K fd ps [] ∧ mg x = some (.ref C)
section
variable {X : Cx} {j k : Nat} {C : Addr} {x fld : Str} {ok : V → Hp → Prop} {p pos : Pos} {e : Expr} {te : TE}
theorem pmk_err (c : ErrMk X.prog X.w X.K X.mg X.base k x C fld ok) (hr : Room j X.A) (hk : k + 1 ≤ j) (hg : Gl X x) (he : PE X e te) (hdb : (x == ("__debug__" : Str)) = false := by decide)
    (hs : starEach [e] X.env = (false, eval e X.env) :: starEach [] X.env := by rfl) (hpl : (backTo pos (starEach [] X.env)).any (·.1) = false := by rfl) :
    PMk X (.Call (.Name x p) [e] [] pos) (tMkO C (spErr C fld ok) [] (tCons te tNil)) := by
  obtain ⟨f, fd, ps, T, iC, tI, F, b, hm⟩ := c.ex
  exact pmk_oex T iC tI F (hr.mono hk) b .nil pass0 hg hm (pa_cons he pa_nil hs) hdb hs hpl
end
section
variable {σ : L2.St} {H H0 : Hp} {C : Addr} {fld : Str} {ok : V → Hp → Prop} {te : TE} {Q : XK} {y : V} {M : List Addr} {L T : List (Addr × HO)}
theorem rd_mkO {sp : Sp} (k : te σ H fun y H1 => [y].length ≤ 1000 ∧ ∀ a, H1 a = none → sp (.ref a :: ([y] ++ [])) (upd H1 a (exo a C none)) (fun v H2 => v = .non ∧ ∃ (d : Addr) (fs : List (Str × V)), H2 a = some (exo a C (some d)) ∧ H2 d = some (exd d fs) ∧ H1 d = none ∧ Q (.ref C) (some d) (upd (del H2 a) d (.xd fs))) (fun _ _ _ => False)) :
    tMkO C sp [] (tCons te tNil) σ H Q := k
/-- the end of X(y) -/
theorem rd_err (ho : ∀ a, H a = none → ok y (upd H a (exo a C none))) (k : ∀ d, H d = none → Q (.ref C) (some d) (upd H d (.xd [(fld, y)]))) :
    [y].length ≤ 1000 ∧ ∀ a, H a = none → spErr C fld ok (.ref a :: ([y] ++ [])) (upd H a (exo a C none)) (fun v H2 => v = .non ∧ ∃ (d : Addr) (fs : List (Str × V)), H2 a = some (exo a C (some d)) ∧ H2 d = some (exd d fs) ∧ H d = none ∧ Q (.ref C) (some d) (upd (del H2 a) d (.xd fs))) (fun _ _ _ => False) := by
  refine ⟨(show 1 ≤ 1000 by decide), fun a ha => ⟨a, y, rfl, ho a ha, upd_same, fun dx hdx hne => ⟨rfl, dx, [(fld, y)], upd_same, ?_, ?_, ?_⟩⟩⟩
  · rw [upd_ne hne, upd_same]
  · rw [upd_ne hne] at hdx; exact hdx
  · have hd : H dx = none := by rw [upd_ne hne] at hdx; exact hdx
    have e : upd (del (upd (upd (upd H a (exo a C none)) dx (exd dx [(fld, y)])) a (exo a C (some dx))) a) dx (.xd [(fld, y)]) = upd H dx (.xd [(fld, y)]) := by
      funext b
      by_cases h1 : b = dx
      · rw [h1, upd_same, upd_same]
      · rw [upd_ne h1, upd_ne h1]
        by_cases h2 : b = a
        · rw [h2, del_same, ha]
        · rw [del_ne h2, upd_ne h2, upd_ne h1, upd_ne h2]
    rw [e]
    exact k dx hd
/-- a refusal with a text is out -/
theorem thrown_out {Cs : ErrCs} {E : XK} {x : Flt} {fs : List (Str × V)} (A : At M H0 H L T) (th : Thrown Cs M H0 E x) (hx : x ≠ .name) (hf : ∀ H', fldIs H' x fs) {d : Addr} (hd : H d = none) : E (.ref (x.cls Cs)) (some d) (upd H d (.xd fs)) := by
  have B := A.snoc hd (.xd fs)
  cases x with
  | name => exact absurd rfl hx
  | twice z => exact th d fs _ (A.fresh0 hd) B.keep upd_same (hf _)
  | missing z => exact th d fs _ (A.fresh0 hd) B.keep upd_same (hf _)
  | held z => exact th d fs _ (A.fresh0 hd) B.keep upd_same (hf _)
  | letgo z => exact th d fs _ (A.fresh0 hd) B.keep upd_same (hf _)
  | spare z => exact th d fs _ (A.fresh0 hd) B.keep upd_same (hf _)
  | row z => exact th d fs _ (A.fresh0 hd) B.keep upd_same (hf _)
end
/-! ### NoName -/
structure NoNameC (K : PySem.W.Frag) (mg : Str → Option Value) (x : Str) (C : Addr) : Prop where
  ex : PySem.W.excIn K C [.type "ValueError", .type "Exception", .type "BaseException", .type "object"] "ValueError.__new__" = true
  g : mg x = some (.ref C)
  k : PySem.W.keepIn K (.ref C) = true
  b : PySem.W.subIn K (.ref C) (.type "BaseException") = some true
  t : PySem.W.typeIn K (.ref C) = some (.type "type")
theorem pmk_noname {X : Cx} {x : Str} {C : Addr} {p pos : Pos} {e : Expr} {te : TE} (c : NoNameC X.K X.mg x C) (hx : X.ex = []) (hg : Gl X x) (he : PE X e te) (hs : starEach [e] X.env = (false, eval e X.env) :: starEach [] X.env := by rfl) (hdb : (x == ("__debug__" : Str)) = false := by decide) :
    PMk X (.Call (.Name x p) [e] [] pos) (fun σ H Q => te σ H fun _ H1 => ∀ a, H1 a = none → ∃ b cls, V.ref a = .ref b ∧ (upd H1 a (ExO (.ref C) a)) b = some (ExO cls b) ∧ Fr0 X.H_0 b ∧ Raises X cls ∧ Q cls none (delH (upd H1 a (ExO (.ref C) a)) b)) :=
  pmk_ret hx (pe_exc1 F.excBase_ValueError c.ex c.g c.k hg he hs hdb)
/-- the end of NoName(..) -/
theorem rd_noName {X : Cx} {x : Str} {C : Addr} {H : Hp} {Q : XK} (c : NoNameC X.K X.mg x C) (h0 : ∀ a, H a = none → X.H_0 a = none) (k : Q (.ref C) none H) :
    ∀ a, H a = none → ∃ b cls, V.ref a = .ref b ∧ (upd H a (ExO (.ref C) a)) b = some (ExO cls b) ∧ Fr0 X.H_0 b ∧ Raises X cls ∧ Q cls none (delH (upd H a (ExO (.ref C) a)) b) :=
  fun a ha => ⟨a, .ref C, rfl, upd_same, fr0_none (h0 a ha), raises_own c.b c.t, by rw [delH_new ha]; exact k⟩
end Nn
namespace Nn
open PySem PySem.Spec PyProof.Rows L2
/-! ### what the text of such an __init__ comes to -/
section
variable {C : Addr} {N : List Str} {c c2 : Str} {vs : List V} {H : Hp} {Q : VK} {E : XK}
abbrev tTexts (ts : List TE) : TE := fun σ H Q => tJs ts Str.empty σ H fun out H1 => Q (.str out) H1
theorem sup_nc (hc : c.length ≤ 1000) (fld : Str) (h : spErr C fld okT vs H Q E) : spSup C N fld (tTexts [tFmt (tVar 1), tC (.str c)]) vs H Q E := by
  obtain ⟨a, y, rfl, ⟨z, rfl, hz⟩, ha, k⟩ := h
  have s1 : (100000 : Nat) + 1000 ≤ sizeLine := by decide
  have l1 : (Str.empty ++ z).length ≤ sizeLine := by rw [Str.length_append]; show 0 + _ ≤ _; omega
  have l2 : (Str.empty ++ z ++ c).length ≤ sizeLine := by rw [Str.length_append, Str.length_append]; show 0 + _ + _ ≤ _; omega
  exact ⟨a, .str z, rfl, ha, .str z, rfl, .inl ⟨z, rfl, by omega, z, rfl, l1, c, rfl, l2, (show 1 ≤ 1000 by decide), rfl, k⟩⟩
theorem sup_cn (hc : c.length ≤ 1000) (fld : Str) (h : spErr C fld okT vs H Q E) : spSup C N fld (tTexts [tC (.str c), tFmt (tVar 1)]) vs H Q E := by
  obtain ⟨a, y, rfl, ⟨z, rfl, hz⟩, ha, k⟩ := h
  have s1 : (100000 : Nat) + 1000 ≤ sizeLine := by decide
  have l1 : (Str.empty ++ c).length ≤ sizeLine := by rw [Str.length_append]; show 0 + _ ≤ _; omega
  have l2 : (Str.empty ++ c ++ z).length ≤ sizeLine := by rw [Str.length_append, Str.length_append]; show 0 + _ + _ ≤ _; omega
  exact ⟨a, .str z, rfl, ha, c, rfl, l1, .str z, rfl, .inl ⟨z, rfl, by omega, z, rfl, l2, (show 1 ≤ 1000 by decide), rfl, k⟩⟩
theorem sup_cR {K : PySem.W.Frag} (hc : c.length ≤ 1000) (fld : Str) (h : spErr C fld (okR K) vs H Q E) : spSup C N fld (tTexts [tC (.str c), tFmtT K (tVar 1)]) vs H Q E := by
  obtain ⟨a, y, rfl, ⟨t, l, rfl, ht, hl, hz⟩, ha, k⟩ := h
  have s1 : (100000 : Nat) + 2000 ≤ sizeLine := by decide
  have l1 : (Str.empty ++ c).length ≤ sizeLine := by rw [Str.length_append]; show 0 + _ ≤ _; omega
  exact ⟨a, .ref t, rfl, ha, c, rfl, l1, .ref t, rfl, t, l, rfl, ht, hl, by omega, fun m hm => ⟨m, rfl, by rw [Str.length_append, Str.length_append]; show 0 + _ + _ ≤ _; omega, (show 1 ≤ 1000 by decide), rfl, k⟩⟩
end
end Nn
namespace Nn
open PySem PySem.Spec PyProof.Rows L2
theorem int_of {env : Env} {sc : Scope} (h : env.scope = sc) (k : (sc.kind == .module) = false) : interactive env = false := by
  unfold interactive
  rw [h, k, Bool.false_and]
/-- what «except N» catches: an error of a class below N -/
theorem exm_of {K : PySem.W.Frag} {S N : Addr} (h1 : PySem.W.subIn K (.ref N) (.type "BaseException") = some true) (h2 : PySem.W.isClsIn K N = true) (h3 : PySem.W.typeIn K (.ref N) = some (.type "type")) (h4 : PySem.W.subIn K (.ref S) (.ref N) = some true) :
    PySem.W.exmOne K (.ref S) (.ref N) = some true := by
  have h2' : (PySem.W.clsIn K N).isSome = true := h2
  unfold PySem.W.exmOne
  rw [h1, if_pos (by rfl)]
  show (if ((PySem.W.clsIn K N).isSome && PySem.W.typeIn K (.ref N) == some (.type "type")) = true then PySem.W.subIn K (.ref S) (.ref N) else none) = some true
  rw [h2', h3, if_pos (by rfl)]
  exact h4
end Nn

namespace Nn
open PySem PySem.Spec PyProof.Rows L2
/-! ### l.count(b), bools -/
def rCntB (K : PySem.W.Frag) : V → List V → Hp → VK → Prop := fun x xs H Q => ∃ (p : Addr) (bs : List Bool) (k : Bool), x = .ref p ∧ xs = [.bl k] ∧ SqL K H p (bs.map V.bl) ∧ Q (.int (bs.count k : Nat)) H
theorem bools_of : ∀ {bs : List Bool} {its : List Value}, Vals (bs.map V.bl) its → its = bs.map Value.bool
  | [], _, h => by cases h; rfl
  | b :: bs, _, h => by
    cases h with
    | cons r t =>
      rw [bools_of t, List.map_cons, show _ = Value.bool b from r]
def isB (k : Bool) (v : Value) : Bool := match v with
  | .bool b => b == k
  | _ => false
theorem count_isB (k : Bool) : ∀ bs : List Bool, (bs.map Value.bool).countP (isB k) = bs.count k
  | [] => rfl
  | b :: bs => by
    rw [List.map_cons, List.countP_cons, List.count_cons, count_isB k bs]
    rfl
theorem mt_cntB {X : Cx} : MtR X "list.count" (rCntB X.K) := by
  intro pins s σ H x xs v us Q I rx rxs h
  obtain ⟨p, bs, k, rfl, rfl, hs, q⟩ := h
  cases rx
  obtain ⟨u, rfl, ru⟩ := rxs.one
  obtain rfl : u = Value.bool k := ru
  obtain ⟨its, rv, ⟨⟨cls, dd, data, sl⟩, n, ho, hc, hdn, hd⟩, hlen⟩ := I.list hs
  simp only at hc hd
  subst hc hd
  have e := bools_of rv
  subst e
  refine call_meets PySem.F.slot_list_count ⟨_, ho, rfl⟩ PySem.F.entry_list_count (PySem.F.args_list_count_2 _ _) (SeqAt.list_countAt p (bs.map Value.bool).toArray n dd sl (.bool k) (isB k)) ⟨ho, fun y hy => ?_, ?_⟩
  · have hy : y ∈ bs.map Value.bool := by simpa using hy
    obtain ⟨b, _, rfl⟩ := List.mem_map.mp hy
    exact eqAt_V (y := .bl b) (x := .bl k) rfl rfl rfl rfl
  refine ⟨.int (bs.count k : Nat), H, I.tok _, ⟨s.toks, ?_⟩, q⟩
  rw [← count_isB k bs]
end Nn

namespace Nn
open PySem PySem.Spec PyProof.Rows L2
/-! ### set(l), l a list of texts -/
def inL (l : List Str) : Key → Bool
  | .inl _ => false
  | .inr z => decide (z ∈ l)
theorem inL_snoc (l : List Str) (x : Str) (k : Key) : (inL l k || decide (k = .inr x)) = inL (l ++ [x]) k := by
  cases k with
  | inl i =>
    show (false || decide ((Sum.inl i : Key) = .inr x)) = false
    rw [decide_eq_false (fun e => by cases e)]
    rfl
  | inr z =>
    show (decide (z ∈ l) || decide ((Sum.inr z : Key) = .inr x)) = decide (z ∈ l ++ [x])
    rw [← Bool.decide_or]
    exact decide_eq_decide.mpr (by rw [List.mem_append, List.mem_singleton]; exact ⟨fun h => h.imp_right Sum.inr.inj, fun h => h.imp_right (congrArg _)⟩)
section
variable {prog : Program} {w : World} {A : Around} {R : Result → Shared → Prop} {I : Addr} {fp wr : List Addr} {G : Array GenState → Array GenState → Prop} {n : Nat} {Pv : Nat → Value → Prop} {St : Nat → Shared → Prop}
theorem set_walk (W : WalksS prog w A.in1 I fp wr G n Pv St) (S : Addr) (off : S ∉ fp) (xs : List Str) (len : xs.length = n) (room : n + 1 < scanBound) (val : ∀ i v, Pv i v → ∃ x t, xs[i]? = some x ∧ v = .str x t) :
    ∀ (k i : Nat) (s : Shared), n - i = k → i ≤ n → St i s → (∃ c, c ≤ i ∧ s.heap.SetOf (mixKind prog w) S (inL (xs.take i)) c) →
      (∀ s' c, Moved (S :: wr) G s s' → c ≤ n → s'.heap.SetOf (mixKind prog w) S (inL xs) c → R (.ok (.ret .none)) s') → codeAny (model prog w) A (.builtin "set.update.loop" ⟨[.ref S, .ref I], []⟩) R s := by
  have more : ∀ b ∈ wr, b ∈ S :: wr := fun b => List.mem_cons_of_mem _
  have out : S ∉ wr := fun z => off (W.sub _ z)
  intro k
  induction k with
  | zero =>
    intro i s e0 le st ⟨c, hc, set⟩ fin
    obtain rfl : i = n := by omega
    refine codeAny_builtin PyProof.Rows.F.entry_set_update_loop ?_; rw [Around.under_plainId PyProof.Rows.F.plain_set_update_loop _]
    show wpAny _ A.in1 (pyNext (.ref I) >>= _) (fun _ _ => _) (fun _ _ => _) s
    refine wpAny_bind (W.done s _ _ st fun s1 mv => ?_)
    refine (show wpAny _ A.in1 (ret Value.none) _ _ s1 from wpAny_pure (fin s1 c (mv.mono more) hc ?_))
    rw [← len, List.take_length] at set
    exact setOf_at set fun o q => mv.heap S o out q
  | succ k ih =>
    intro i s e0 le st ⟨c, hc, set⟩ fin
    have lt : i < n := by omega
    refine codeAny_builtin PyProof.Rows.F.entry_set_update_loop ?_; rw [Around.under_plainId PyProof.Rows.F.plain_set_update_loop _]
    show wpAny _ A.in1 (pyNext (.ref I) >>= _) (fun _ _ => _) (fun _ _ => _) s
    refine wpAny_bind (W.item i s _ _ lt st fun v s1 pv st1 mv => ?_)
    obtain ⟨x, t, hx, rfl⟩ := val i v pv
    have set1 := setOf_at set fun o q => mv.heap S o out q
    show wpAny _ A.in1 (holding [Value.str x t] (setAdd S (.str x t)) >>= _) _ _ s1
    refine wpAny_bind (wpAny_holding ?_)
    unfold setAdd
    refine wpAny_holding (wpAny_bind ((mixKind prog w).pyHash (k := .inr x) (mixKind_str prog w x t) ?_))
    refine wpAny_setAddHashed_of (knd := mixKind prog w) (k := .inr x) (s := { s1 with toks := s1.toks + 1 }) (mixKind_str prog w x t) rfl set1 (by omega) fun h' sb set2 => ?_
    have set3 : ∃ c', c' ≤ i + 1 ∧ h'.SetOf (mixKind prog w) S (inL (xs.take (i + 1))) c' := by
      have e : (fun j => inL (xs.take i) j || decide (j = .inr x)) = inL (xs.take (i + 1)) := funext fun k' => by rw [List.take_add_one, hx]; exact inL_snoc _ _ _
      rw [← e]
      exact ⟨_, by split <;> omega, set2⟩
    have keep : ∀ b, b ≠ S → ∀ o, s1.heap.get? b = some o → h'.get? b = some o := fun b hb o q => (sb.2 b hb).trans q
    refine wpAny_pure ⟨plainId_quiet PyProof.Rows.F.plain_set_update_loop _, ih (i + 1) _ (by omega) lt (W.frame _ s1 _ _ st1 (Nat.le_succ _) fun b hb o q => keep b (fun z => off (z ▸ hb)) o q) set3 fun s2 c2 mv2 hc2 set4 => ?_⟩
    exact fin s2 c2 (Moved.trans W.gtrans ((mv.mono more).then_heap (Nat.le_succ _) fun b o hb q => keep b (fun z => hb (z ▸ List.mem_cons_self)) o q) mv2) hc2 set4
end
section
variable {prog : Program} {w : World} {A : Around} {E : Value → Shared → Prop} {s : Shared}
theorem set_list_call {l : Addr} {its : Array Value} {xs : List Str} {Q : Value → Shared → Prop} (hh : A.handled = none) (isl : s.heap.IsList l its) (vals : ∀ (i : Nat) (v : Value), its[i]? = some v → ∃ x t, xs[i]? = some x ∧ v = .str x t) (len : xs.length = its.size) (room : xs.length + 1 < scanBound)
    (fin : ∀ (h' : Heap) (tk c : Nat), c ≤ xs.length → h'.SetOf (mixKind prog w) s.heap.objs.size (inL xs) c → (∀ b o, s.heap.get? b = some o → h'.get? b = some o) → Q (.ref s.heap.objs.size) { s with heap := h', toks := tk }) :
    wpAny (model prog w) A (call (.type "set") [.ref l]) Q E s := by
  obtain ⟨c0, tl0, mro0⟩ := PySem.F.called_set.mro
  have made0 := PySem.F.called_set.made; have sub0 := PySem.F.called_set.sub; have nt0 := PySem.F.called_set.notType
  have cc0 := PySem.F.called_set.canCreate; have tc0 := PySem.F.typeCall_set_1 (.ref l)
  refine wpAny_call (codeAny_of_tree (show wpAny _ _ (callAny (.type "set") _) _ _ _ from wpAny_pure ⟨Code.quiet_builtin _ (by decide +kernel), codeAny_builtin PySem.F.entry_type_call ?_⟩))
  rw [Around.under_plain (weight_type_call_type "set" ([.ref l] : List Value) []) rfl]
  repeat any_goals (first | assumption | wp_step)
  have new0 : ∀ led : Bool, (s.heap.push { cls := .type "set", dict := none, data := .set #[] 0 (.fresh 0 0 led) }).get? s.heap.objs.size = some { cls := .type "set", dict := none, data := .set #[] 0 (.fresh 0 0 led) } := fun led => Heap.get?_push_size _ rfl
  refine codeAny_mono (code_set_new_1 (.ref l) (E := E) (Q₁ := fun ob s₁ => ∃ led : Bool, ob = .ref s.heap.objs.size ∧ s₁ = { s with heap := s.heap.push { cls := .type "set", dict := none, data := .set #[] 0 (.fresh 0 0 led) } }) fun led => ⟨led, rfl, rfl⟩) fun res s₁ hres => ?_
  match res, hres with
  | .error _, hres => exact hres
  | .ok .next, hres => exact hres.elim
  | .ok .brk, hres => exact hres.elim
  | .ok .cont, hres => exact hres.elim
  | .ok (.ret ob), hres =>
  obtain ⟨led, rfl, rfl⟩ := hres
  have ty0 : Shared.TypeIs { s with heap := s.heap.push { cls := .type "set", dict := none, data := .set #[] 0 (.fresh 0 0 led) } } (.ref s.heap.objs.size) "set" := ⟨_, new0 led, rfl⟩
  have il0 := PySem.F.called_set.init.lookup; have ib0 := PySem.F.called_set.init.bind (.ref s.heap.objs.size)
  repeat any_goals (first | assumption | wp_step)
  refine codeAny_mono (codeAny_call_builtin (R := wants (fun r s₂ => r = .none ∧ ∃ h' tk c, s₂ = { s with heap := h', toks := tk } ∧ c ≤ xs.length ∧ h'.SetOf (mixKind prog w) s.heap.objs.size (inL xs) c ∧ (∀ b o, s.heap.get? b = some o → h'.get? b = some o)) E) PySem.F.called_set.init.plain PySem.F.entry_set_init (check_set_init_1 ty0 ?_)) fun res2 s₂ hres2 => ?_
  · obtain ⟨⟨cl, di, da, sl⟩, ho, hc, nl, hd⟩ := isl
    simp only at hc hd
    subst hc
    subst hd
    have ho1 : (s.heap.push { cls := .type "set", dict := none, data := .set #[] 0 (.fresh 0 0 led) }).get? l = some { cls := .type "list", dict := di, data := .seq its nl, slots := sl } := Heap.get?_push_of_some _ ho
    have q1 := PySem.F.sub_list_set; have q2 := PySem.F.sub_list_frozenset; have q3 : (Value.type "list" == Value.type "dict") = false := by decide
    have isl1 : (s.heap.push { cls := .type "set", dict := none, data := .set #[] 0 (.fresh 0 0 led) }).IsList l its := ⟨_, ho1, rfl, nl, rfl⟩
    unfold Builtin.«set.__init__» noKeywords Builtin.Frozenset.updateFrom; generalize eI : pyIter = itr
    wp_walk
    subst eI
    refine wpAny_pyIter_list isl1 (wpAny_bind (wpAny_runValue ?_))
    have lt0 : l < s.heap.objs.size := Heap.lt_size ho
    have nI : l ≠ (s.heap.push { cls := .type "set", dict := none, data := .set #[] 0 (.fresh 0 0 led) }).objs.size := by rw [Heap.size_push]; exact Nat.ne_of_lt (Nat.lt_succ_of_lt lt0)
    have nS : s.heap.objs.size ∉ [(s.heap.push { cls := .type "set", dict := none, data := .set #[] 0 (.fresh 0 0 led) }).objs.size, l] := by
      rw [Heap.size_push, List.mem_cons, List.mem_singleton]; exact fun z => z.elim (fun z => Nat.ne_of_lt (Nat.lt_succ_self _) z) fun z => Nat.ne_of_gt lt0 z
    refine set_walk ((Walks.list (show A.in1.in1.in1.handled = none by simp [hh]) _ l nI its).toS) s.heap.objs.size nS xs len (by omega) vals (its.size - 0) 0 _ (by omega) (Nat.zero_le _) ⟨⟨_, Heap.get?_push_size _ rfl, rfl, rfl⟩, (isl1.push _)⟩ ⟨0, Nat.le_refl _, ?z0⟩ ?z1
    case z0 =>
      have e : (fun _ => false) = inL (xs.take 0) := funext fun k => by cases k <;> first | rfl | exact (decide_eq_false (by simp)).symm
      rw [← e]
      exact ⟨_, #[], 0, _, Heap.get?_push_of_some _ (new0 led), ⟨rfl, rfl, rfl⟩, rfl, fun x hx => (by simp at hx), fun x => (by simp), (by decide), by rfl, rfl⟩
    case z1 =>
      intro s3 c3 mv hc3 set3
      obtain ⟨h', g', d', tk', os'⟩ := s3
      obtain rfl : g' = s.gens := mv.gens
      obtain rfl : d' = s.drawn := mv.drawn
      obtain rfl : os' = s.os := mv.os
      refine (show wpAny _ _ _ _ _ _ from wpAny_pure (show wpAny _ _ (ret Value.none) _ _ _ from wpAny_pure ⟨rfl, h', tk', c3, rfl, by omega, set3, fun b o q => ?_⟩))
      have lt : b < s.heap.objs.size := Heap.lt_size q
      refine mv.heap b o ?_ (Heap.get?_push_of_some _ (Heap.get?_push_of_some _ q))
      rw [Heap.size_push, List.mem_cons, List.mem_singleton]; exact fun z => z.elim (fun z => Nat.ne_of_lt lt z) fun z => Nat.ne_of_lt (Nat.lt_succ_of_lt lt) z
  · match res2, hres2 with
    | .error _, hres2 => exact hres2
    | .ok .next, hres2 => exact hres2.elim
    | .ok .brk, hres2 => exact hres2.elim
    | .ok .cont, hres2 => exact hres2.elim
    | .ok (.ret r), hres2 =>
      obtain ⟨rfl, h', tk, c, rfl, hc, set3, keep⟩ := hres2
      repeat any_goals (first | assumption | wp_step)
      exact fin h' tk c hc set3 keep
end
/-- set(l) of a list of texts -/
def rSetS (K : PySem.W.Frag) (P : Program) (w : World) : List V → Hp → VK → Prop := fun vs H Q => ∃ (a : Addr) (xs : List Str), vs = [.ref a] ∧ SqL K H a (xs.map V.str) ∧ xs.length ≤ 1000 ∧ ∀ p c, H p = none → c ≤ xs.length → Q (.ref p) (upd H p (SetK P w p (inL xs) c))
theorem strs_vals : ∀ {xs : List Str} {us : List Value}, Vals (xs.map V.str) us → us.length = xs.length ∧ ∀ (i : Nat) (v : Value), us[i]? = some v → ∃ x t, xs[i]? = some x ∧ v = .str x t
  | [], _, h => by cases h; exact ⟨rfl, fun i v h => by simp at h⟩
  | x :: xs, _, h => by
    cases h with
    | cons r t =>
      obtain ⟨l, g⟩ := strs_vals t
      obtain ⟨tk, rfl⟩ := r
      refine ⟨by rw [List.length_cons, List.length_cons, l], fun i v hv => ?_⟩
      cases i with
      | zero => cases hv; exact ⟨x, tk, rfl, rfl⟩
      | succ i => exact g i v hv
theorem cr_setS {X : Cx} (hc : X.calm = true) : CallR X (.type "set") (rSetS X.K X.prog X.w) := by
  intro pins s σ H vs us Q I r h
  obtain ⟨a, xs, rfl, hs, hl, q⟩ := h
  obtain ⟨u, rfl, ru⟩ := r.one
  cases ru
  obtain ⟨its, rv, isl, _⟩ := I.list hs
  obtain ⟨sl, vals⟩ := strs_vals rv
  refine set_list_call (xs := xs) (I.ok.hd hc) (show s.heap.IsList a its.toArray from isl.isList) (fun i v hv => vals i v (by simpa using hv)) (by rw [List.size_toArray, sl]) (by unfold scanBound; omega) fun h' tk c hcl set keep => ?_
  have nn : H s.heap.objs.size = none := I.hok.fresh (Nat.le_refl _)
  exact ⟨.ref s.heap.objs.size, _, I.laid (t' := tk) (o := SetK X.prog X.w s.heap.objs.size (inL xs) c) keep (Nat.le_refl _) (setK_new set), rfl, q _ c nn hcl⟩
/-! within a comprehension's block -/
section
variable {X : Cx} {P : Program} {w : World}
theorem or_sinK' (hP : X.prog = P) (hw : X.w = w) : OpR X (compareOp .In) (rSInK P w false) := by subst hP; subst hw; exact or_sinK
theorem or_snotinK' (hP : X.prog = P) (hw : X.w = w) : OpR X (compareOp .NotIn) (rSInK P w true) := by subst hP; subst hw; exact or_snotinK
end
end Nn

namespace Nn
open PySem PySem.Spec PyProof.Rows L2
/-! ### dict.get of a key that may be None (the dict's keys are numbers and texts) -/
section
variable {X : Cx} {pins : List (Addr × Obj)} {σ : L2.St} {H : Hp} {s : Shared} {a : Addr} {kvs : List (Key × V)} {A : Around} {E : Value → Shared → Prop} {d : V} {r : Value}
theorem d_getNone2 {Q : Value → Shared → Prop} (I : Inv X pins σ H s) (e : Rd H a (.dK kvs)) (rd : RelV d r) (h : ∀ w' s', Inv X pins σ H s' → RelV d w' → Q w' s') :
    wpAny (model X.prog X.w) A (call (.builtin "dict.get") [.ref a, .none, r]) Q E s := by
  obtain ⟨_, hd, vs, _, dd⟩ := dk_rd I.hok e
  obtain ⟨f, hm, hf⟩ := none_map dd
  refine call_meetsIn PySem.F.slot_dict_get dd.typeIs PySem.F.entry_dict_get (PySem.F.args_dict_get_3 _ _ _) (meets_dict_get_default (noneKind X.prog X.w) a (show (noneKind X.prog X.w).is none .none = true from rfl) hd r) ⟨_, hm, h _ _ (I.tok _) ?_⟩
  rw [hf]
  exact rd
end
def tDGet2N (td ty tx : TE) : TE := fun σ H Q => td σ H fun x H1 => ∃ a, x = .ref a ∧ IsD H1 a ∧ ty σ H1 fun y H2 => tx σ H2 fun z H3 => (∃ o, DGet H3 a y o ∧ Q (o.getD z) H3) ∨ ∃ kvs, y = .non ∧ Rd H3 a (.dK kvs) ∧ Q z H3
section
variable {X : Cx} {o e f : Expr} {apos cpos : Pos} {td ty tx : TE}
theorem pe_dget2N (hu : X.A.units + 1 < cLine) (ho : PE X o td) (he : PE X e ty) (hf : PE X f tx) (m : M2 X o "get" apos e f cpos) : PE X (.Call (.Attribute o "get" apos) [e, f] [] cpos) (tDGet2N td ty tx) := by
  refine ⟨fun pins s σ H Q I h => ?_⟩
  refine wpAny_Call_method m.base m.few m.line PySem.F.plainAttrs_dict PySem.F.slot_dict_get PySem.F.type_dict_get (thn (ho.run pins s σ H _ I h) fun u s1 ⟨x, H1, I1, rx, a, ex, d, q1⟩ => ?_)
  subst ex
  obtain rfl : u = Value.ref a := rx
  obtain ⟨t1, t2, _⟩ := isD_at I1 d
  refine ⟨t1, t2, ?_⟩
  rw [m.trees]
  refine Calls.callWith_builtin rfl (Calls.evalArgs_plain (Calls.spliced_cons (thn (he.run pins s1 σ H1 _ I1 q1) fun iv s2 ⟨y, H2, I2, ry, q2⟩ =>
    Calls.spliced_cons (thn (hf.run pins s2 σ H2 _ I2 q2) fun fv s3 ⟨z, H3, I3, rz, q3⟩ => Calls.spliced_nil ?_))))
  rcases q3 with ⟨ov, g, q3⟩ | ⟨kvs, ey, g, q3⟩
  · exact d_get2 hu I3 g ry rz fun w' s4 I4 rw' => ⟨_, H3, I4, rw', q3⟩
  · subst ey
    obtain rfl : iv = Value.none := ry
    exact d_getNone2 I3 g rz fun w' s4 I4 rw' => ⟨z, H3, I4, rw', q3⟩
end
theorem rd_dget2N {σ : L2.St} {H : Hp} {Q : VK} {td ty tx : TE} (k : td σ H fun x H1 => ∃ a, x = .ref a ∧ IsD H1 a ∧ ty σ H1 fun y H2 => tx σ H2 fun z H3 => (∃ o, DGet H3 a y o ∧ Q (o.getD z) H3) ∨ ∃ kvs, y = .non ∧ Rd H3 a (.dK kvs) ∧ Q z H3) : tDGet2N td ty tx σ H Q := k
end Nn

namespace Nn
open PySem PySem.Spec PyProof.Rows L2
/-! ### errors as values -/
section
variable {X : Cx} {pins : List (Addr × Obj)} {σ : L2.St} {H : Hp} {s : Shared}
/-- what is known of an object, said in another way -/
theorem inv_retag {a : Addr} {φ : Heap → Prop} {o' : HO} (I : Inv X pins σ H s) (ha : H a = some (.ext φ)) (new : ObjOk X.prog X.w H s.heap a o') : Inv X pins σ (upd H a o') s := by
  have old : ∀ {b : Addr} {o : HO}, H b = some o → (∀ ψ, o ≠ .ext ψ) → upd H a o' b = some o := fun {b o} e h => by
    rw [upd_ne (fun q => by rw [q, ha] at e; exact h φ (Option.some.inj e).symm)]; exact e
  have non : ∀ {b : Addr}, H b = none → upd H a o' b = none := fun {b} e => by
    rw [upd_ne (fun q => by rw [q, ha] at e; cases e)]; exact e
  refine ⟨I.ok, I.os, I.bare, ⟨I.base.keep, I.base.slot, fun b o e n x => non (I.base.free b o e n x), I.base.there, fun b xs q => old (I.base.tups b xs q) (fun _ h => by cases h), fun b o u q => old (I.base.frzs b o u q) (fun _ h => by cases h), fun b ps q => ?_⟩, I.loc, I.cell, non I.free, fun x c e => non (I.freeC x c e), fun p hp => ?_, fun b o e => ?_, I.len⟩
  · obtain ⟨m, r⟩ := I.base.tbls b ps q
    exact ⟨m, old r (fun _ h => by cases h)⟩
  · obtain ⟨p1, p2, p3, p4, p5⟩ := I.pin p hp
    exact ⟨p1, non p2, p3, p4, p5⟩
  · by_cases hb : b = a
    · subst hb
      rw [upd_same] at e
      cases e
      exact new.stay (fun _ _ _ q => q) (fun _ q => old q (fun _ h => by cases h)) fun _ _ q => old q (fun _ h => by cases h)
    · rw [upd_ne hb] at e
      exact (I.hok b o e).stay (fun _ _ _ q => q) (fun _ q => old q (fun _ h => by cases h)) fun _ _ q => old q (fun _ h => by cases h)
end
/-- X(e), an own error with an own __init__, as a value -/
def tMkV (C : Addr) (sp : Sp) (dvs : List V) (ta : TA) : TE := fun σ H Q => ta σ H fun vs H1 => vs.length ≤ 1000 ∧ ∀ a, H1 a = none → sp (.ref a :: (vs ++ dvs)) (upd H1 a (exo a C none))
  (fun v H2 => v = .non ∧ ∃ (d : Addr) (fs : List (Str × V)), H2 a = some (exo a C (some d)) ∧ H2 d = some (exd d fs) ∧ d ≠ a ∧ Q (.ref a) (upd (upd H2 a (ExH (.ref C) (some d) a)) d (.xd fs))) (fun _ _ _ => False)
section
variable {X : Cx} {e : Expr} {es : List Expr} {ta : TA} {p pos : Pos}
theorem pe_oexV {CX : CXT} {x : Str} {C fI : Addr} {k : Nat} {fd : FuncData} {ps : List Str} {sp : Sp} {ds : List Value} {dvs : List V} (T : OexC X.K C) (iC : PySem.W.findIn X.K (.ref C) "__init__" = some (some (.ref fI))) (tI : PySem.W.typeIn X.K (.ref fI) = some (.type "function"))
    (F1 : FnOk X.prog X.w X.K X.mg X.base CX k fI fd ps sp) (hr : Room (k + 1) X.A) (hb : Binds X.K fd ps ds) (hd : Vals dvs ds) (hx : Passes CX X (fun _ _ _ => False)) (hg : Gl X x) (hm : X.mg x = some (.ref C)) (ha : PA X (e :: es) ta)
    (hdb : (x == ("__debug__" : Str)) = false := by decide) (he : starEach (e :: es) X.env = (false, eval e X.env) :: starEach es X.env := by rfl) (hpl : (backTo pos (starEach es X.env)).any (·.1) = false := by rfl) :
    PE X (.Call (.Name x p) (e :: es) [] pos) (tMkV C sp dvs ta) := by
  refine ⟨fun pins s σ H Q I h => ?_⟩
  obtain ⟨nm, q, N, bs, bm, sn, sub, ab, col, dd, k0, k1, k2, k3, k5, hC, hbm⟩ := T.cls
  refine wpAny_Call_Name_kw (ld_glob I hg hm ?_ hdb)
  refine PySem.W.callWith_K (h₀ := X.base) I.ok.mod.kin T.kC (thn (ha.run pos pins s σ H _ I h) fun us s1 ⟨vs, H1, I1, r1, hz, q1⟩ => ⟨I1.kIn, ?_⟩) he hpl
  show wpAny _ _ (call (.ref C) us) _ _ _
  obtain ⟨hp, g, dr, tk, os⟩ := s1
  have hsz : hp.objs.size ≤ hp.objs.size + 1 := Nat.le_succ _
  have hn : H1 (hp.objs.size + 1) = none := I1.hok.fresh hsz
  have hq := q1 (hp.objs.size + 1) hn
  have kk : ∀ b o, hp.get? b = some o → ((hp.push (PySem.W.kdv_tup us)).push (PySem.HandSPX.excO C hp.objs.size)).get? b = some o := fun b o e => Heap.get?_push_of_some _ (Heap.get?_push_of_some _ e)
  have hget : ((hp.push (PySem.W.kdv_tup us)).push (PySem.HandSPX.excO C hp.objs.size)).get? (hp.objs.size + 1) = some (PySem.HandSPX.excO C hp.objs.size) := by heap_get
  have I2 : Inv X pins σ (upd H1 (hp.objs.size + 1) (exo (hp.objs.size + 1) C none)) ⟨(hp.push (PySem.W.kdv_tup us)).push (PySem.HandSPX.excO C hp.objs.size), g, dr, tk, os⟩ :=
    I1.laid (t' := tk) (a := hp.objs.size + 1) (o := exo (hp.objs.size + 1) C none) (h' := (hp.push (PySem.W.kdv_tup us)).push (PySem.HandSPX.excO C hp.objs.size)) kk hsz (exo_ok hget)
  have r2 : Vals (V.ref (hp.objs.size + 1) :: (vs ++ dvs)) (Value.ref (hp.objs.size + 1) :: (us ++ ds)) := .cons rfl (r1.append hd)
  have hl : (Value.ref (hp.objs.size + 1) :: us ++ ds).length = ps.length := by
    have e := r2.length
    rw [F1.len _ _ _ _ hq] at e
    exact e.symm
  have hus : us.length ≤ sizeLine := by
    rw [← Paired.length r1, sizeLine_eq]
    omega
  refine wpAny_call (PySem.HandSPX.call_own F.excBase_ValueError (fun Y => PySem.HandSPX.refsVE_contains Y bm hbm) (I1.kIn _ _ hC) (PySem.W.looks_findIn I1.kIn iC) (fun self => PySem.W.bind_fn I1.kIn self tI) hus
    (codeAny_mono (F1.run _ X.stack _ _ ⟨Value.ref (hp.objs.size + 1) :: us, []⟩ (Value.ref (hp.objs.size + 1) :: (us ++ ds)) _ _ (fun _ _ _ => False) (hr.make C us []) (I2.env0.make C us []) (hb _ (Value.ref (hp.objs.size + 1) :: us) I2.kIn hl) r2 hq) fun r s' hq' => ?_))
  cases r with
  | error er => exact hx pins σ _ _ er s' I2 hq'
  | ok fl =>
    cases fl with
    | ret u =>
      obtain ⟨v, H2, I3, rv, ev, d, fs, ea, ed, hne, q2⟩ := I2.after hq'
      subst ev
      obtain ⟨t1, he1⟩ := exo_at I3.hok ea
      have I4 := inv_retag I3 ea (exH_ok he1 ⟨rfl, rfl⟩ rfl)
      have ed' : upd H2 (hp.objs.size + 1) (ExH (.ref C) (some d) (hp.objs.size + 1)) d = some (exd d fs) := by rw [upd_ne hne]; exact ed
      have I5 := inv_retag (o' := .xd fs) I4 ed' (exd_at I3.hok ed)
      exact ⟨rv, V.ref (hp.objs.size + 1), _, I5, rfl, q2⟩
    | next => exact False.elim hq'
    | brk => exact False.elim hq'
    | cont => exact False.elim hq'
theorem pe_errV {j k : Nat} {C : Addr} {x fld : Str} {ok : V → Hp → Prop} {te : TE} (c : ErrMk X.prog X.w X.K X.mg X.base k x C fld ok) (hr : Room j X.A) (hk : k + 1 ≤ j) (hg : Gl X x) (he : PE X e te) (hdb : (x == ("__debug__" : Str)) = false := by decide)
    (hs : starEach [e] X.env = (false, eval e X.env) :: starEach [] X.env := by rfl) (hpl : (backTo pos (starEach [] X.env)).any (·.1) = false := by rfl) :
    PE X (.Call (.Name x p) [e] [] pos) (tMkV C (spErr C fld ok) [] (tCons te tNil)) := by
  obtain ⟨f, fd, ps, T, iC, tI, F, b, hm⟩ := c.ex
  exact pe_oexV T iC tI F (hr.mono hk) b .nil pass0 hg hm (pa_cons he pa_nil hs) hdb hs hpl
end
section
variable {σ : L2.St} {H H0 : Hp} {C : Addr} {fld : Str} {ok : V → Hp → Prop} {te : TE} {Q : VK} {y : V} {M : List Addr} {L T : List (Addr × HO)}
theorem rd_mkV {sp : Sp} (k : te σ H fun y H1 => [y].length ≤ 1000 ∧ ∀ a, H1 a = none → sp (.ref a :: ([y] ++ [])) (upd H1 a (exo a C none)) (fun v H2 => v = .non ∧ ∃ (d : Addr) (fs : List (Str × V)), H2 a = some (exo a C (some d)) ∧ H2 d = some (exd d fs) ∧ d ≠ a ∧ Q (.ref a) (upd (upd H2 a (ExH (.ref C) (some d) a)) d (.xd fs))) (fun _ _ _ => False)) :
    tMkV C sp [] (tCons te tNil) σ H Q := k
/-- the end of X(y) as a value -/
theorem rd_errV {E : XK} (ho : ∀ a, H a = none → ok y (upd H a (exo a C none))) (k : ∀ a d, H a = none → H d = none → d ≠ a → Q (.ref a) (upd (upd H a (ExH (.ref C) (some d) a)) d (.xd [(fld, y)]))) :
    [y].length ≤ 1000 ∧ ∀ a, H a = none → spErr C fld ok (.ref a :: ([y] ++ [])) (upd H a (exo a C none)) (fun v H2 => v = .non ∧ ∃ (d : Addr) (fs : List (Str × V)), H2 a = some (exo a C (some d)) ∧ H2 d = some (exd d fs) ∧ d ≠ a ∧ Q (.ref a) (upd (upd H2 a (ExH (.ref C) (some d) a)) d (.xd fs))) E := by
  refine ⟨(show 1 ≤ 1000 by decide), fun a ha => ⟨a, y, rfl, ho a ha, upd_same, fun dx hdx hne => ⟨rfl, dx, [(fld, y)], upd_same, ?_, hne, ?_⟩⟩⟩
  · rw [upd_ne hne, upd_same]
  · have hd : H dx = none := by rw [upd_ne hne] at hdx; exact hdx
    have e : upd (upd (upd (upd (upd H a (exo a C none)) dx (exd dx [(fld, y)])) a (exo a C (some dx))) a (ExH (.ref C) (some dx) a)) dx (.xd [(fld, y)]) = upd (upd H a (ExH (.ref C) (some dx) a)) dx (.xd [(fld, y)]) := by
      funext b
      by_cases h1 : b = dx
      · rw [h1, upd_same, upd_same]
      · rw [upd_ne h1, upd_ne h1]
        by_cases h2 : b = a
        · rw [h2, upd_same, upd_same]
        · rw [upd_ne h2, upd_ne h2, upd_ne h2, upd_ne h1, upd_ne h2]
    rw [e]
    exact k a dx ha hd hne
end
section
variable {C : Addr} {N : List Str} {vs : List V} {H : Hp} {Q : VK} {E : XK} {c c2 : Str}
/-- a row's number -/
def okJ : V → Hp → Prop := fun y _ => ∃ i : Int, y = .int i ∧ 0 ≤ i ∧ i < 10 ^ 12
theorem row_log {i : Int} (h0 : 0 ≤ i) (h1 : i < 10 ^ 12) : i.natAbs.log2 < 1920 := by
  have hb : i.natAbs < 2 ^ 40 := by omega
  exact Nat.lt_of_lt_of_le (PySem.Flt.log2_lt_of (by decide) hb) (by decide)
theorem sup_cIc (hc : c.length ≤ 1000) (hc2 : c2.length ≤ 1000) (fld : Str) (h : spErr C fld okJ vs H Q E) : spSup C N fld (tTexts [tC (.str c), tFmt (tVar 1), tC (.str c2)]) vs H Q E := by
  obtain ⟨a, y, rfl, ⟨i, rfl, h0, h1⟩, ha, k⟩ := h
  have s1 : (100000 : Nat) + 2000 ≤ sizeLine := by decide
  have l1 : (Str.empty ++ c).length ≤ sizeLine := by rw [Str.length_append]; show 0 + _ ≤ _; omega
  have l0 := PyProof.Rows.toString_length_le h0 (show 0 < 12 by decide) h1
  refine ⟨a, .int i, rfl, ha, c, rfl, l1, .int i, rfl, .inr ⟨i, rfl, row_log h0 h1, _, rfl, ?_, c2, rfl, ?_, (show 1 ≤ 1000 by decide), rfl, k⟩⟩
  · rw [Str.length_append, Str.length_append]; show 0 + _ + _ ≤ _; omega
  · rw [Str.length_append, Str.length_append, Str.length_append]; show 0 + _ + _ + _ ≤ _; omega
end
section
variable {X : Cx} {e : Expr} {te : TE} {p pos : Pos}
/-- NoName(e) as a value -/
def tMkN (C : Addr) (te : TE) : TE := fun σ H Q => te σ H fun _ H1 => ∀ a, H1 a = none → ∃ (b : Addr) (H0 : Hp), V.ref a = .ref b ∧ H0 b = none ∧ upd H1 a (ExO (.ref C) a) = upd H0 b (ExO (.ref C) b) ∧ Q (.ref b) (upd H0 b (ExH (.ref C) none b))
theorem pe_nonameV {x : Str} {C : Addr} (c : NoNameC X.K X.mg x C) (hg : Gl X x) (he : PE X e te) (hs : starEach [e] X.env = (false, eval e X.env) :: starEach [] X.env := by rfl) (hdb : (x == ("__debug__" : Str)) = false := by decide) :
    PE X (.Call (.Name x p) [e] [] pos) (tMkN C te) := by
  refine ⟨fun pins s σ H Q I h => ?_⟩
  have P := pe_exc1 (p := p) (pos := pos) F.excBase_ValueError c.ex c.g c.k hg he hs hdb
  refine wpAny_mono (P.run pins s σ H (fun x H1 => ∃ (b : Addr) (H0 : Hp), x = .ref b ∧ H0 b = none ∧ H1 = upd H0 b (ExO (.ref C) b) ∧ Q (.ref b) (upd H0 b (ExH (.ref C) none b))) I h) (fun u s1 hu => ?_) fun _ _ x => x
  obtain ⟨v, H1, I1, r1, b, H0, rfl, h0, rfl, q⟩ := hu
  obtain ⟨⟨oe, vs, ho, hz, hd, _⟩, _⟩ := (show ObjOk X.prog X.w (upd H0 b (ExO (.ref C) b)) s1.heap b (ExO (.ref C) b) from I1.hok b _ upd_same)
  have I2 := inv_retag (o' := ExH (.ref C) none b) I1 upd_same (exH_ok ho hz hd)
  have e : upd (upd H0 b (ExO (.ref C) b)) b (ExH (.ref C) none b) = upd H0 b (ExH (.ref C) none b) := by
    funext d
    by_cases h : d = b
    · rw [h, upd_same, upd_same]
    · rw [upd_ne h, upd_ne h, upd_ne h]
  rw [e] at I2
  exact ⟨_, _, I2, r1, q⟩
theorem rd_mkN {C : Addr} {σ : L2.St} {H : Hp} {Q : VK} (k : te σ H fun _ H1 => ∀ a, H1 a = none → ∃ (b : Addr) (H0 : Hp), V.ref a = .ref b ∧ H0 b = none ∧ upd H1 a (ExO (.ref C) a) = upd H0 b (ExO (.ref C) b) ∧ Q (.ref b) (upd H0 b (ExH (.ref C) none b))) : tMkN C te σ H Q := k
theorem mkN_end {C : Addr} {H1 : Hp} {Q : VK} (k : ∀ a, H1 a = none → Q (.ref a) (upd H1 a (ExH (.ref C) none a))) : ∀ a, H1 a = none → ∃ (b : Addr) (H0 : Hp), V.ref a = .ref b ∧ H0 b = none ∧ upd H1 a (ExO (.ref C) a) = upd H0 b (ExO (.ref C) b) ∧ Q (.ref b) (upd H0 b (ExH (.ref C) none b)) :=
  fun a ha => ⟨a, H1, rfl, ha, rfl, k a ha⟩
end
theorem rd_dpop1 {σ : L2.St} {H : Hp} {Q : VK} {td ty : TE} (k : td σ H fun x H1 => ∃ a, x = .ref a ∧ IsD H1 a ∧ ty σ H1 fun y H2 => ∃ kvs k v, H2 a = some (.dK kvs) ∧ y = kV k ∧ valV kvs k = some v ∧ Q v (upd H2 a (.dK (dropK kvs k)))) : tDPop1 td ty σ H Q := k
theorem rd_ddel {σ : L2.St} {H : Hp} {n : L2.St → Hp → Prop} {rt : VK} {bk ct : L2.St → Hp → Prop} {td ty : TE} (k : td σ H fun x H1 => ty σ H1 fun y H2 => ∃ a kvs k, x = .ref a ∧ H2 a = some (.dK kvs) ∧ y = kV k ∧ (valV kvs k).isSome = true ∧ n σ (upd H2 a (.dK (dropK kvs k)))) : sDDel td ty ⟨n, rt, bk, ct⟩ σ H := k
/-! ### what may raise, where it doesn't -/
section
variable {P : Program} {w : World} {K : PySem.W.Frag} {mg : Str → Option Value} {base : Heap} {k : Nat}
theorem noX {f : Addr} {fd : FuncData} {ps : List Str} {sp : Sp} (F : FnOk P w K mg base (L2.CX P w) k f fd ps sp) : FnOk P w K mg base CX0 k f fd ps (fun vs H Q _ => sp vs H Q fun _ _ _ => False) :=
  ⟨fun vs H Q E h => F.len vs H Q _ h, fun A outer s H args us vs Q E hr he hb hv hs => codeAny_mono (F.run A outer s H args us vs Q _ hr he hb hv hs) fun r s' h => by
    cases r with
    | error e =>
      obtain ⟨_, _, _, _, _, _, _, _, _, _, _, _, _, h⟩ := h
    | ok x => cases x <;> exact h⟩
theorem ClX.noX {x : Str} {sp sp' : Sp} (c : ClX P w K mg base k x sp) (h : ∀ vs H Q E, sp' vs H Q E → sp vs H Q fun _ _ _ => False) : Cl P w K mg base k x sp' := by
  obtain ⟨f, fd, ps, F, hm, kp, b⟩ := c.ex
  exact ⟨_, _, _, (Nn.noX F).imp h, hm, kp, b⟩
theorem MrX.noX {x : Str} {C : Addr} {sp sp' : Sp} (c : MrX P w K mg base k x C sp) (h : ∀ vs H Q E, sp' vs H Q E → sp vs H Q fun _ _ _ => False) : Mr P w K mg base k x C sp' := by
  obtain ⟨f, fd, ps, M, F, hm, b⟩ := c.ex
  exact ⟨_, _, _, M, (Nn.noX F).imp h, hm, b⟩
end
end Nn

namespace Nn
open PySem PySem.Spec PyProof.Rows L2
section
variable {X : Cx} {x : Str} {pos : Pos}
/-- a text of the module's top -/
theorem pe_gstr {z : Str} (hg : Gl X x) (h : ∃ t, X.mg x = some (.str z t)) (hd : (x == ("__debug__" : Str)) = false := by decide) : PE X (.Name x pos) (tC (.str z)) := by
  obtain ⟨t, h⟩ := h
  exact pe_glob hg h ⟨t, rfl⟩ hd
end
/-! ### d = {k: v for ..} (a statement of its own) -/
section
variable {X : Cx}
theorem sw_trueD {kx vx : Expr} {gs : List Comprehension} {scope : Scope} {pos py : Pos} {y : Str} {l : Nat} {env : Env} (hk : env.scope.kind = .function) (hy : env.scope.names.lookup y = some .local) (hl : (py.line == pos.line) = true)
    (ha : (scope.names.any fun (n, k) => n == y && (k == .local || k == .cell)) = false) : swapsWith (.DictComp kx vx gs scope pos) (some (.Name y py)) l env = pure true := by
  have ky : env.kindOf y = some .local := hy
  have hb : env.blockKind = .function := by unfold Env.blockKind; rw [hk]; rfl
  unfold swapsWith
  simp only [hb, ky, ha, Expr.pos, hl]
  rfl
theorem ps_setDc {i : Nat} {y : Str} {py : Pos} {kx vx tg iter : Expr} {ifs : List Expr} {scope : Scope} {own : List (Str × Nat)} {pos spos : Pos} {wi : TI} {g : TG} {tt : TT} {tk tv : TE} (hc : X.calm = true) (hN : X.N.Nodup) (hy : X.N[i]? = some y) (hyl : X.env.scope.names.lookup y = some .local)
    (hsw : swapsWith (.DictComp kx vx [⟨tg, iter, ifs, 0⟩] scope pos) (some (.Name y py)) spos.line X.env = pure true) (hi : PI X tg iter wi) (ok : BlkOk X.N X.env.scope scope own)
    (hg : ∀ (s : Shared) (H : Hp) (C : Addr) (cl : List (Str × Addr)) (fp : List Addr), PG (X.blk s H scope (compEnvC scope cl C X.env) fp) tg g) (ht : ∀ (s : Shared) (H : Hp) (C : Addr) (cl : List (Str × Addr)) (fp : List Addr), PTs (X.blk s H scope (compEnvC scope cl C X.env) fp) ifs tt)
    (hk : ∀ (s : Shared) (H : Hp) (C : Addr) (cl : List (Str × Addr)) (fp : List Addr), PE (X.blk s H scope (compEnvC scope cl C X.env) fp) kx tk)
    (he : ∀ (s : Shared) (H : Hp) (C : Addr) (cl : List (Str × Addr)) (fp : List Addr), PE (X.blk s H scope (compEnvC scope cl C X.env) fp) vx tv) (hs : ∀ x, foldedSetIterable iter X.env x = pure x := by intro _; rfl) :
    PS X (.Assign [.Name y py] (.DictComp kx vx [⟨tg, iter, ifs, 0⟩] scope pos) spos) (tAsg (tDc wi g tt tk tv (own.map (·.2))) (gName i)) := by
  refine ⟨fun pins s σ H D I h => ?_⟩
  rw [exec_Assign_Name_used _ _ _ _ hsw]
  refine wpAny_bind (wpAny_standAt (wpAny_bind ?_))
  show wpAny _ X.A (do let _ ← comprehension (.DictComp kx vx [⟨tg, iter, ifs, 0⟩] scope pos) scope X.env (firstIterPos [⟨tg, iter, ifs, 0⟩] pos) newDict false (eval iter X.env) (some (assign (.Name y py) X.env))) _ _ s
  have h : tDc wi g tt tk tv (own.map (·.2)) σ H (fun x H1 => gName i x σ H1 D.nx) := h
  refine wpAny_bind (thn (dc_core (Qf := fun _ s' => SP X pins D .next s') hc hN I hi ok hg ht hk he hs h fun L C s' m H' I' q hn f => ?_) fun _ s' hq => wpAny_pure (wpAny_pure hq))
  show wpAny _ _ (assign (.Name y py) X.env (.ref L)) _ _ _
  refine wpAny_assign_Name (store_ok2 (v := V.ref L) I' hN hy (.inl hyl) rfl (fun s2 I2 ⟨a, sb, ha⟩ => ?_) (.inr hyl))
  obtain ⟨f0, f1, f2, f3, f4, f5⟩ := f
  have haC : C ≠ a := by
    rcases ha with z | z
    · rw [z]; exact f1
    · exact fun e => f4 y a z e.symm
  refine ⟨m, hn.sameBut sb haC, fun h3 sb3 => ?_⟩
  exact ⟨_, H', I2.turned (t' := s2.toks) (fun b o hb e => (sb3.2 b hb).trans e) f0 f1 f3 f4 f5, q⟩
end
end Nn

namespace Nn
open PySem PySem.Spec PyProof.Rows L2
/-! ### dicts whose keys are tuples of texts and None (their values numbers) -/
abbrev Plc := List (Option Str)
/-- a row: the key, the tuple's address, the number -/
abbrev DRow := Plc × Addr × Int
def kP (p : Plc) : List (Option Key) := p.map fun o => o.map Sum.inr
def vP (p : Plc) : List V := p.map ov
theorem kP_inj : ∀ {p q : Plc}, kP p = kP q → p = q
  | [], [], _ => rfl
  | [], _ :: _, h => by cases h
  | _ :: _, [], h => by cases h
  | none :: p, none :: q, h => by
    have h : (none : Option Key) :: kP p = none :: kP q := h
    rw [kP_inj (List.cons.inj h).2]
  | none :: p, some y :: q, h => by cases h
  | some x :: p, none :: q, h => by cases h
  | some x :: p, some y :: q, h => by
    have h : (some (Sum.inr x) : Option Key) :: kP p = some (Sum.inr y) :: kP q := h
    rw [kP_inj (List.cons.inj h).2, Sum.inr.inj (Option.some.inj (List.cons.inj h).1)]
theorem items_areP {P : Program} {w : World} : ∀ {p : Plc} {us : List Value}, Vals (vP p) us → ItemsAre (noneKind P w) (kP p) us
  | [], _, r => by cases r; exact .nil
  | none :: p, _, r => by
    cases r with
    | cons h t => exact .cons (show nkIs none _ = true by rw [show _ = Value.none from h]; rfl) (items_areP t)
  | some z :: p, _, r => by
    cases r with
    | cons h t => exact .cons (show nkIs (some (Sum.inr z)) _ = true from kV_is (P := P) (w := w) (k := .inr z) h) (items_areP t)
/-- rows and what stands in the object -/
def RowsOk : List DRow → List (List (Option Key) × Addr × Value) → Prop := Paired fun r q => q.1 = kP r.1 ∧ q.2.1 = r.2.1 ∧ RelV (.int r.2.2) q.2.2
def DictN (P : Program) (w : World) (a : Addr) (W : List DRow) : HO := .ext fun h => (a == sysModules) = false ∧ W.length ≤ sizeLine ∧ ∃ (xs : List (List (Option Key) × Addr × Value)), RowsOk W xs ∧ (xs.map (·.1)).Nodup ∧
  ∃ o es ep, h.get? a = some o ∧ o.ExactDict ∧ o.data = .dict es ep ∧ es.toList = xs.map (entryOfKey (tupleKind (noneKind P w)))
/-- the tuples of the rows -/
def tD (r : DRow) : Addr × HO := (r.2.1, .tup (vP r.1))
theorem rows_at {W : List DRow} {xs : List (List (Option Key) × Addr × Value)} (h : RowsOk W xs) (p : Plc) : (atKey xs (kP p) = none ∧ p ∉ W.map (·.1)) ∨ ∃ r ∈ W, r.1 = p ∧ ∃ v, atKey xs (kP p) = some (r.2.1, v) ∧ RelV (.int r.2.2) v := by
  induction h with
  | nil => exact .inl ⟨rfl, by simp⟩
  | @cons r q W xs h t ih =>
    obtain ⟨h1, h2, h3⟩ := h
    by_cases e : r.1 = p
    · refine .inr ⟨r, List.mem_cons_self, e, q.2.2, ?_, h3⟩
      unfold atKey
      rw [List.find?_cons_of_pos (by simp [h1, e])]
      show some q.2 = _
      rw [← h2]
    · have hne : ¬ q.1 = kP p := fun e2 => e (kP_inj (h1.symm.trans e2))
      have ek : atKey (q :: xs) (kP p) = atKey xs (kP p) := by unfold atKey; rw [List.find?_cons_of_neg (by simp [hne])]
      rw [ek]
      rcases ih with ⟨i1, i2⟩ | ⟨r', hr, i1, i2⟩
      · refine .inl ⟨i1, fun hm => ?_⟩
        rcases List.mem_cons.mp hm with e2 | hm
        · exact e e2.symm
        · exact i2 hm
      · exact .inr ⟨r', List.mem_cons_of_mem _ hr, i1, i2⟩
theorem rows_some {W : List DRow} {xs : List (List (Option Key) × Addr × Value)} (h : RowsOk W xs) (p : Plc) : (atKey xs (kP p)).isSome = decide (p ∈ W.map (·.1)) := by
  rcases rows_at h p with ⟨e, hn⟩ | ⟨r, hr, rfl, v, e, _⟩
  · rw [e, decide_eq_false hn]; rfl
  · rw [e, decide_eq_true (List.mem_map_of_mem hr)]; rfl
section
variable {P : Program} {w : World} {H : Hp} {h h' : Heap} {a b : Addr} {p : Plc} {W : List DRow}
theorem key_ofP (ok : HOk P w H h) (e : H b = some (.tup (vP p))) : (tupleKind (noneKind P w)).is h (kP p) b := by
  obtain ⟨_, its, r, o, h1, h2, n, h3⟩ := (show ObjOk P w H h b (.tup (vP p)) from ok b _ e)
  exact ⟨o, its.toArray, n, h1, h2, h3, by simpa using items_areP r⟩
theorem dn_get (ok : HOk P w H h) (e : H a = some (DictN P w a W)) (ht : ∀ r ∈ W, H r.2.1 = some (.tup (vP r.1))) : (a == sysModules) = false ∧ W.length ≤ sizeLine ∧ ∃ xs, RowsOk W xs ∧ h.DictOfH (tupleKind (noneKind P w)) a xs := by
  obtain ⟨h1, h2, xs, hr, nd, o, es, ep, g1, g2, g3, g4⟩ := (show ObjOk P w H h a (DictN P w a W) from ok a _ e).1
  refine ⟨h1, h2, xs, hr, o, es, ep, g1, g2, g3, g4, ?_, nd⟩
  have all : ∀ {l : List DRow} {m : List (List (Option Key) × Addr × Value)}, RowsOk l m → (∀ r ∈ l, H r.2.1 = some (.tup (vP r.1))) → ∀ x ∈ m, (tupleKind (noneKind P w)).is h x.1 x.2.1 := by
    intro l m q
    induction q with
    | nil => intro _ x hx; cases hx
    | @cons r y l m hq t ih =>
      intro hl x hx
      rcases List.mem_cons.mp hx with e | hx
      · subst e
        rw [hq.1, hq.2.1]
        exact key_ofP ok (hl r List.mem_cons_self)
      · exact ih (fun r hr => hl r (List.mem_cons_of_mem _ hr)) x hx
  exact all hr ht
theorem dn_new {H' : Hp} {xs : List (List (Option Key) × Addr × Value)} (hd : (a == sysModules) = false) (hl : W.length ≤ sizeLine) (hr : RowsOk W xs) (dd : h'.DictOfH (tupleKind (noneKind P w)) a xs) : ObjOk P w H' h' a (DictN P w a W) := by
  obtain ⟨o, es, ep, g1, g2, g3, g4, _, nd⟩ := dd
  exact ⟨⟨hd, hl, xs, hr, nd, o, es, ep, g1, g2, g3, g4⟩, ⟨o, g1⟩, fun h1 h2 ⟨q1, q2, xs, q3, q4, o, es, ep, q5, q6⟩ k => ⟨q1, q2, xs, q3, q4, o, es, ep, k o q5, q6⟩⟩
end
/-- t not in d -/
def rNotInN (P : Program) (w : World) : R2 := fun x y H Q => ∃ (p : Plc) (b a : Addr) (W : List DRow), x = .ref b ∧ y = .ref a ∧ H b = some (.tup (vP p)) ∧ H a = some (DictN P w a W) ∧ (∀ r ∈ W, H r.2.1 = some (.tup (vP r.1))) ∧ Q (.bl (!decide (p ∈ W.map (·.1)))) H
/-- d[t] -/
def rIxN (P : Program) (w : World) : R2 := fun x y H Q => ∃ (r : DRow) (b a : Addr) (W : List DRow), x = .ref a ∧ y = .ref b ∧ H b = some (.tup (vP r.1)) ∧ H a = some (DictN P w a W) ∧ (∀ r ∈ W, H r.2.1 = some (.tup (vP r.1))) ∧ r ∈ W ∧ (W.map (·.1)).Nodup ∧ Q (.int r.2.2) H
/-- d[t] = i, t not in d -/
def rSetN (P : Program) (w : World) : TSet := fun o i v H Q => ∃ (p : Plc) (b a : Addr) (W : List DRow) (n : Int), o = .ref a ∧ i = .ref b ∧ v = .int n ∧ H b = some (.tup (vP p)) ∧ H a = some (DictN P w a W) ∧ (∀ r ∈ W, H r.2.1 = some (.tup (vP r.1))) ∧ p ∉ W.map (·.1) ∧ W.length < sizeLine ∧
  Q (upd H a (DictN P w a (W ++ [(p, b, n)])))
theorem nd_row {W : List DRow} (nd : (W.map (·.1)).Nodup) {r r' : DRow} (h : r ∈ W) (h' : r' ∈ W) (e : r.1 = r'.1) : r = r' := by
  obtain ⟨i, hi⟩ := List.getElem?_of_mem h
  obtain ⟨j, hj⟩ := List.getElem?_of_mem h'
  have h1 : (W.map (·.1))[i]? = some r.1 := by rw [List.getElem?_map, hi]; rfl
  have h2 : (W.map (·.1))[j]? = some r.1 := by rw [List.getElem?_map, hj, e]; rfl
  have := nd_ix nd h1 h2
  subst this
  rw [hi] at hj
  exact Option.some.inj hj
section
variable {X : Cx}
theorem or_notInN (hu : X.A.units + 1 < cLine) : OpR X (compareOp .NotIn) (rNotInN X.prog X.w) := by
  intro pins s σ H x y v u Q I rx ry h
  obtain ⟨p, b, a, W, rfl, rfl, hb, ha, ht, q⟩ := h
  cases rx
  cases ry
  obtain ⟨hd, hl, xs, hr, dd⟩ := dn_get I.hok ha ht
  refine wpAny_notIn_heap (tupleKind_room_in1 hu) (key_ofP I.hok hb) hd dd ?_
  rw [rows_some hr]
  exact ⟨.bl _, H, I.tok _, rfl, q⟩
theorem ix_dN (hu : X.A.units + 1 < cLine) : IxR X (rIxN X.prog X.w) := by
  intro value slice pins s σ H x y v u Q I rx ry h hs
  obtain ⟨r, b, a, W, rfl, rfl, hb, ha, ht, hm, nd, q⟩ := h
  cases rx
  cases ry
  obtain ⟨hd, hl, xs, hr, dd⟩ := dn_get I.hok ha ht
  rcases rows_at hr r.1 with ⟨_, hn⟩ | ⟨r', hr', e, v, ek, rv⟩
  · exact absurd (List.mem_map_of_mem hm) hn
  · have := nd_row nd hr' hm e
    subst this
    exact tail_any dd.typeIs slot_dict_getitem.lookup (wpAny_getItem_heap (tupleKind_room_in1 hu) (key_ofP I.hok hb) dd ek ⟨.int r'.2.2, H, I.tok _, rv, q⟩) hs
theorem put_dN {pins : List (Addr × Obj)} {σ : L2.St} {H : Hp} {s : Shared} {p : Plc} {b a : Addr} {W : List DRow} {n : Int} {u : Value} (I : Inv X pins σ H s) (hb : H b = some (.tup (vP p))) (ha : H a = some (DictN X.prog X.w a W)) (ht : ∀ r ∈ W, H r.2.1 = some (.tup (vP r.1)))
    (hn : p ∉ W.map (·.1)) (hl : W.length < sizeLine) (ru : RelV (.int n) u) {xs : List (List (Option Key) × Addr × Value)} (hd : (a == sysModules) = false) (hr : RowsOk W xs) {h' : Heap} {t' : Nat}
    (dd : h'.DictOfH (tupleKind (noneKind X.prog X.w)) a (storedH xs (kP p) b u)) (sb : Heap.SameBut a s.heap h') : Inv X pins σ (upd H a (DictN X.prog X.w a (W ++ [(p, b, n)]))) { s with heap := h', toks := t' } := by
  have he : ∃ q, h'.get? a = some q := let ⟨q, _, _, hq, _⟩ := dd; ⟨q, hq⟩
  refine d_write I (by rw [ha]; exact True.intro) sb he (dn_new hd (by rw [List.length_append]; exact hl) ?_ dd)
  rcases rows_at hr p with ⟨e, _⟩ | ⟨r, hr', e, _⟩
  · rw [storedH_new e]
    exact Paired.snoc hr ⟨rfl, rfl, ru⟩
  · exact absurd (e ▸ List.mem_map_of_mem hr') hn
theorem set_dN (hu : X.A.units + 1 < cLine) : PSet X (rSetN X.prog X.w) := by
  intro pins s σ H o i v ov iv u Q I ro ri rv h
  obtain ⟨p, b, a, W, n, rfl, rfl, rfl, hb, ha, ht, hn, hl, q⟩ := h
  cases ro
  cases ri
  obtain ⟨hd, _, xs, hr, dd⟩ := dn_get I.hok ha ht
  refine wpAny_setItem_heap (hsz := by rw [← Paired.length hr]; omega) (tupleKind_room_in1 hu) (key_ofP I.hok hb) dd fun h' dd' hs => ?_
  exact ⟨_, put_dN I hb ha ht hn hl rv hd hr dd' hs, q⟩
theorem dn_empty {P : Program} {w : World} {H : Hp} (h : Heap) (hb : sysModules < h.objs.size) : ObjOk P w H (h.push { cls := .type "dict", data := .dict #[] }) h.objs.size (DictN P w h.objs.size []) :=
  dn_new (beq_eq_false_iff_ne.mpr (Ne.symm (Nat.ne_of_lt hb))) (Nat.zero_le _) .nil (Heap.DictOfH.new h)
/-- {t: i} -/
def tDispN (P : Program) (w : World) (tk tv : TE) : TE := fun σ H Q => ∀ a, H a = none → tk σ (upd H a (DictN P w a [])) fun x H1 => tv σ H1 fun y H2 => ∃ (p : Plc) (b : Addr) (n : Int), x = .ref b ∧ y = .int n ∧ H2 b = some (.tup (vP p)) ∧ H2 a = some (DictN P w a []) ∧
  Q (.ref a) (upd H2 a (DictN P w a [(p, b, n)]))
theorem pe_dispN {k v : Expr} {pos : Pos} {tk tv : TE} (hu : X.A.units + 1 < cLine) (hk : PE X k tk) (hv : PE X v tv) : PE X (.Dict [some k] [v] pos) (tDispN X.prog X.w tk tv) := by
  refine ⟨fun pins s σ H Q I q => ?_⟩
  have hn := I.hok.fresh (Nat.le_refl s.heap.objs.size)
  have I1 := I.laid (a := s.heap.objs.size) (o := DictN X.prog X.w s.heap.objs.size []) (h' := s.heap.push { cls := .type "dict", data := .dict #[] }) (t' := s.toks) (fun _ _ q => Heap.get?_push_of_some _ q) (Nat.le_refl _) (dn_empty s.heap I.big)
  have h : PPs X pos [some k] [v] [(tk, tv)] := pps_cons hk hv pps_nil
  refine wpAny_Dict_any (by rfl) (by rfl) (by simp) (Nat.le_of_ble_eq_true rfl) (thn (h.run pins _ σ _ (fun ps H2 => match ps with
    | [(x, y)] => ∃ (p : Plc) (b : Addr) (n : Int), x = .ref b ∧ y = .int n ∧ H2 b = some (.tup (vP p)) ∧ H2 s.heap.objs.size = some (DictN X.prog X.w s.heap.objs.size []) ∧ Q (.ref s.heap.objs.size) (upd H2 s.heap.objs.size (DictN X.prog X.w s.heap.objs.size [(p, b, n)]))
    | _ => False) I1 (q _ hn)) fun ws s2 ⟨ps, H2, I2, rel, hq⟩ => ?_)
  match ps, rel, hq with
  | [], _, hq => exact hq.elim
  | _ :: _ :: _, _, hq => exact hq.elim
  | [(x, y)], .cons (b := (u, z)) ⟨r1, r2⟩ .nil, ⟨p, b, n, e2, e3, hb, ha, q2⟩ =>
    subst e2
    subst e3
    have r1 : u = Value.ref b := r1
    subst r1
    obtain ⟨hd, _, xs, hr, dd⟩ := dn_get I2.hok ha (by intro r hr; cases hr)
    cases hr
    unfold storeAll
    rw [List.forIn_cons]
    refine wpAny_bind (wpAny_bind (wpAny_dictSet_heap (hsz := Nat.zero_le _) (show X.A.units < cLine by omega) (key_ofP I2.hok hb) dd fun h' dd' hs => wpAny_pure ?_))
    dsimp only
    rw [List.forIn_nil]
    exact wpAny_pure ⟨.ref s.heap.objs.size, _, put_dN (W := []) I2 hb ha (by intro r hr; cases hr) (by simp) (by decide) r2 hd .nil dd' hs, rfl, q2⟩
end
section
variable {X : Cx} {K : PySem.W.Frag}
theorem sl_tupA' (h : X.K = K) : SlR X (rSlA K) := h ▸ sl_tupA
theorem op_catA' (h : X.K = K) : OpR X (binaryOp .Add) (rCatA K) := h ▸ op_catA
theorem pe_bm0' {o : Expr} {to : TE} {name : Str} {apos cpos : Pos} {T id : String} {r : V → List V → Hp → VK → Prop} (h : X.K = K) (pa : PlainAttrs T) (slot : Slot T name id) (hty : typeOf (.builtin id) = pure (.type "method_descriptor")) (hm : MtR X id r) (ho : PE X o to)
    (hbase : attributeBase o name X.env (eval o X.env) = eval o X.env := by rfl) (hline : (apos.endLine == cpos.line) = true := by rfl) : PE X (.Call (.Attribute o name apos) [] [] cpos) (tBM0 K T r to) := h ▸ pe_bm0 pa slot hty hm ho hbase hline
end
section
variable {σ : L2.St} {H : Hp} {Q : VK} {P : Program} {w : World} {tk tv te : TE} {n bk ct : L2.St → Hp → Prop} {rt : VK} {i : Nat} {ti : TIp}
theorem rd_dispN (k : ∀ a, H a = none → tk σ (upd H a (DictN P w a [])) fun x H1 => tv σ H1 fun y H2 => ∃ (p : Plc) (b : Addr) (n : Int), x = .ref b ∧ y = .int n ∧ H2 b = some (.tup (vP p)) ∧ H2 a = some (DictN P w a []) ∧ Q (.ref a) (upd H2 a (DictN P w a [(p, b, n)]))) : tDispN P w tk tv σ H Q := k
theorem rd_aug {i : Nat} {x : V} (h : σ[i]? = some (some x)) (k : te σ H fun y H1 => ti x y H1 fun z H2 => n (σ.set i (some z)) H2) : tAug i te ti ⟨n, rt, bk, ct⟩ σ H := ⟨x, h, k⟩
end
end Nn

namespace Nn
open PySem PySem.Spec PyProof.Rows L2
def topS (i : Nat) : Stmt := PySem.Challenge.pw_newnames_k09_whole_no_fewer.main.body.getD i (.Pass ⟨0, 0, 0, 0⟩)
-- Twice.__init__: 0:self 1:name
abbrev sTwice___init__ : Stmt := inClass (topS 3) 0
abbrev NTwice___init__ : List Str := ["self", "name"]
abbrev PTwice___init__ : List Str := ["self", "name"]
-- Missing.__init__: 0:self 1:name
abbrev sMissing___init__ : Stmt := inClass (topS 4) 0
abbrev NMissing___init__ : List Str := ["self", "name"]
abbrev PMissing___init__ : List Str := ["self", "name"]
-- Held.__init__: 0:self 1:name
abbrev sHeld___init__ : Stmt := inClass (topS 5) 0
abbrev NHeld___init__ : List Str := ["self", "name"]
abbrev PHeld___init__ : List Str := ["self", "name"]
-- NoSpare.__init__: 0:self 1:ring
abbrev sNoSpare___init__ : Stmt := inClass (topS 6) 0
abbrev NNoSpare___init__ : List Str := ["self", "ring"]
abbrev PNoSpare___init__ : List Str := ["self", "ring"]
-- is_name: 0:thing 1:sign
abbrev sis_name : Stmt := topS 9
abbrev Nis_name : List Str := ["thing", "sign"]
abbrev Pis_name : List Str := ["thing"]
theorem scis_name : FnScope Nis_name ["thing"] (defScope sis_name) := ⟨rfl, rfl, rfl, by decide +kernel, rfl, by decide +kernel, by decide +kernel⟩
-- check_name: 0:thing
abbrev scheck_name : Stmt := topS 10
abbrev Ncheck_name : List Str := ["thing"]
abbrev Pcheck_name : List Str := ["thing"]
theorem sccheck_name : FnScope Ncheck_name ["thing"] (defScope scheck_name) := ⟨rfl, rfl, rfl, by decide +kernel, rfl, by decide +kernel, by decide +kernel⟩
-- Plan.__init__: 0:self 1:pairs 2:leads 3:taken 4:old 5:new
abbrev sPlan___init__ : Stmt := inClass (topS 11) 0
abbrev NPlan___init__ : List Str := ["self", "pairs", "leads", "taken", "old", "new"]
abbrev PPlan___init__ : List Str := ["self", "pairs"]
theorem scPlan___init__ : FnScope NPlan___init__ ["self", "pairs"] (defScope sPlan___init__) := ⟨rfl, rfl, rfl, by decide +kernel, rfl, by decide +kernel, by decide +kernel⟩
-- Plan.pairs: 0:self
abbrev sPlan_pairs : Stmt := inClass (topS 11) 1
abbrev NPlan_pairs : List Str := ["self"]
abbrev PPlan_pairs : List Str := ["self"]
theorem scPlan_pairs : FnScope NPlan_pairs ["self"] (defScope sPlan_pairs) := ⟨rfl, rfl, rfl, by decide +kernel, rfl, by decide +kernel, by decide +kernel⟩
-- Plan.olds: 0:self
abbrev sPlan_olds : Stmt := inClass (topS 11) 2
abbrev NPlan_olds : List Str := ["self"]
abbrev PPlan_olds : List Str := ["self"]
theorem scPlan_olds : FnScope NPlan_olds ["self"] (defScope sPlan_olds) := ⟨rfl, rfl, rfl, by decide +kernel, rfl, by decide +kernel, by decide +kernel⟩
-- Plan.news: 0:self 1:new
abbrev sPlan_news : Stmt := inClass (topS 11) 3
abbrev NPlan_news : List Str := ["self", "new"]
abbrev PPlan_news : List Str := ["self"]
theorem scPlan_news : FnScope NPlan_news ["self"] (defScope sPlan_news) := ⟨rfl, rfl, rfl, by decide +kernel, rfl, by decide +kernel, by decide +kernel⟩
-- Plan.to: 0:self 1:name
abbrev sPlan_to : Stmt := inClass (topS 11) 4
abbrev NPlan_to : List Str := ["self", "name"]
abbrev PPlan_to : List Str := ["self", "name"]
theorem scPlan_to : FnScope NPlan_to ["self", "name"] (defScope sPlan_to) := ⟨rfl, rfl, rfl, by decide +kernel, rfl, by decide +kernel, by decide +kernel⟩
-- Plan.rings: 0:self 1:found 2:seen 3:start 4:walk 5:name
abbrev sPlan_rings : Stmt := inClass (topS 11) 5
abbrev NPlan_rings : List Str := ["self", "found", "seen", "start", "walk", "name"]
abbrev PPlan_rings : List Str := ["self"]
theorem scPlan_rings : FnScope NPlan_rings ["self"] (defScope sPlan_rings) := ⟨rfl, rfl, rfl, by decide +kernel, rfl, by decide +kernel, by decide +kernel⟩
-- fits: 0:plan 1:names 2:held 3:old 4:olds 5:new
abbrev sfits : Stmt := topS 12
abbrev Nfits : List Str := ["plan", "names", "held", "old", "olds", "new"]
abbrev Pfits : List Str := ["plan", "names"]
theorem scfits : FnScope Nfits ["plan", "names"] (defScope sfits) := ⟨rfl, rfl, rfl, by decide +kernel, rfl, by decide +kernel, by decide +kernel⟩
-- deeds: 0:plan 1:names 2:spare
abbrev sdeeds : Stmt := topS 16
abbrev Ndeeds : List Str := ["plan", "names", "spare"]
abbrev Pdeeds : List Str := ["plan", "names", "spare"]
theorem scdeeds : FnScope Ndeeds ["plan", "names", "spare"] (defScope sdeeds) := ⟨rfl, rfl, rfl, by decide +kernel, rfl, by decide +kernel, by decide +kernel⟩
-- _check_no_rings: 0:plan 1:rings
abbrev s_check_no_rings : Stmt := topS 17
abbrev N_check_no_rings : List Str := ["plan", "rings"]
abbrev P_check_no_rings : List Str := ["plan"]
theorem sc_check_no_rings : FnScope N_check_no_rings ["plan"] (defScope s_check_no_rings) := ⟨rfl, rfl, rfl, by decide +kernel, rfl, by decide +kernel, by decide +kernel⟩
-- _check_spare: 0:spare 1:plan 2:names
abbrev s_check_spare : Stmt := topS 18
abbrev N_check_spare : List Str := ["spare", "plan", "names"]
abbrev P_check_spare : List Str := ["spare", "plan", "names"]
theorem sc_check_spare : FnScope N_check_spare ["spare", "plan", "names"] (defScope s_check_spare) := ⟨rfl, rfl, rfl, by decide +kernel, rfl, by decide +kernel, by decide +kernel⟩
-- deeds_over: 0:plan 1:spare 2:told 3:ring
abbrev sdeeds_over : Stmt := topS 19
abbrev Ndeeds_over : List Str := ["plan", "spare", "told", "ring"]
abbrev Pdeeds_over : List Str := ["plan", "spare"]
theorem scdeeds_over : FnScope Ndeeds_over ["plan", "spare"] (defScope sdeeds_over) := ⟨rfl, rfl, rfl, by decide +kernel, rfl, by decide +kernel, by decide +kernel⟩
-- _chain_deeds: 0:plan 1:olds 2:comers 3:told 4:old 5:new
abbrev s_chain_deeds : Stmt := topS 20
abbrev N_chain_deeds : List Str := ["plan", "olds", "comers", "told", "old", "new"]
abbrev P_chain_deeds : List Str := ["plan"]
theorem sc_chain_deeds : FnScope N_chain_deeds ["plan"] (defScope s_chain_deeds) := ⟨rfl, rfl, rfl, by decide +kernel, rfl, by decide +kernel, by decide +kernel⟩
-- _moves_up: 0:free 1:comers 2:moves 3:comer
abbrev s_moves_up : Stmt := topS 21
abbrev N_moves_up : List Str := ["free", "comers", "moves", "comer"]
abbrev P_moves_up : List Str := ["free", "comers"]
theorem sc_moves_up : FnScope N_moves_up ["free", "comers"] (defScope s_moves_up) := ⟨rfl, rfl, rfl, by decide +kernel, rfl, by decide +kernel, by decide +kernel⟩
-- _ring_deeds: 0:ring 1:spare 2:told 3:at
abbrev s_ring_deeds : Stmt := topS 22
abbrev N_ring_deeds : List Str := ["ring", "spare", "told", "at"]
abbrev P_ring_deeds : List Str := ["ring", "spare"]
theorem sc_ring_deeds : FnScope N_ring_deeds ["ring", "spare"] (defScope s_ring_deeds) := ⟨rfl, rfl, rfl, by decide +kernel, rfl, by decide +kernel, by decide +kernel⟩
-- _law_state: 0:_law_cell 1:_law_k
abbrev s_law_state : Stmt := topS 24
abbrev N_law_state : List Str := ["_law_cell", "_law_k"]
abbrev P_law_state : List Str := ["_law_cell", "_law_k"]
theorem sc_law_state : FnScope N_law_state ["_law_cell", "_law_k"] (defScope s_law_state) := ⟨rfl, rfl, rfl, by decide +kernel, rfl, by decide +kernel, by decide +kernel⟩
-- _law_next: 0:_law_state_here 1:_law_size
abbrev s_law_next : Stmt := topS 25
abbrev N_law_next : List Str := ["_law_state_here", "_law_size"]
abbrev P_law_next : List Str := ["_law_state_here", "_law_size"]
theorem sc_law_next : FnScope N_law_next ["_law_state_here", "_law_size"] (defScope s_law_next) := ⟨rfl, rfl, rfl, by decide +kernel, rfl, by decide +kernel, by decide +kernel⟩
-- _law_turned: 0:_law_state_here 1:_law_things 2:_law_left 3:_law_found
abbrev s_law_turned : Stmt := topS 26
abbrev N_law_turned : List Str := ["_law_state_here", "_law_things", "_law_left", "_law_found"]
abbrev P_law_turned : List Str := ["_law_state_here", "_law_things"]
theorem sc_law_turned : FnScope N_law_turned ["_law_state_here", "_law_things"] (defScope s_law_turned) := ⟨rfl, rfl, rfl, by decide +kernel, rfl, by decide +kernel, by decide +kernel⟩
-- _law_small_pairs: 0:_law_state_here 1:_law_held 2:_law_names 3:_law_movers 4:_law_some 5:_law_name 6:_law_old
abbrev s_law_small_pairs : Stmt := topS 27
abbrev N_law_small_pairs : List Str := ["_law_state_here", "_law_held", "_law_names", "_law_movers", "_law_some", "_law_name", "_law_old"]
abbrev P_law_small_pairs : List Str := ["_law_state_here", "_law_held"]
theorem sc_law_small_pairs : FnScope N_law_small_pairs ["_law_state_here", "_law_held"] (defScope s_law_small_pairs) := ⟨rfl, rfl, rfl, by decide +kernel, rfl, by decide +kernel, by decide +kernel⟩
-- _law_further: 0:_law_places 1:_law_names 2:_law_goals 3:_law_found 4:_law_k 5:_law_free 6:_law_name
abbrev s_law_further : Stmt := topS 28
abbrev N_law_further : List Str := ["_law_places", "_law_names", "_law_goals", "_law_found", "_law_k", "_law_free", "_law_name"]
abbrev P_law_further : List Str := ["_law_places", "_law_names", "_law_goals"]
theorem sc_law_further : FnScope N_law_further ["_law_places", "_law_names", "_law_goals"] (defScope s_law_further) := ⟨rfl, rfl, rfl, by decide +kernel, rfl, by decide +kernel, by decide +kernel⟩
-- _law_fewest: 0:_law_begin 1:_law_goals 2:_law_names 3:_law_met 4:_law_waiting 5:_law_at 6:_law_here 7:_law_there
abbrev s_law_fewest : Stmt := topS 29
abbrev N_law_fewest : List Str := ["_law_begin", "_law_goals", "_law_names", "_law_met", "_law_waiting", "_law_at", "_law_here", "_law_there"]
abbrev P_law_fewest : List Str := ["_law_begin", "_law_goals", "_law_names"]
theorem sc_law_fewest : FnScope N_law_fewest ["_law_begin", "_law_goals", "_law_names"] (defScope s_law_fewest) := ⟨rfl, rfl, rfl, by decide +kernel, rfl, by decide +kernel, by decide +kernel⟩
-- law: 0:_law_script 1:_law_names 2:_law_k 3:_law_cell 4:_law_state_here 5:_law_held 6:_law_pairs 7:_law_leads 8:_law_goals 9:_law_rows 10:_law_name
abbrev slaw : Stmt := topS 30
abbrev Nlaw : List Str := ["_law_script", "_law_names", "_law_k", "_law_cell", "_law_state_here", "_law_held", "_law_pairs", "_law_leads", "_law_goals", "_law_rows", "_law_name"]
abbrev Plaw : List Str := ["_law_script"]
theorem sclaw : FnScope Nlaw ["_law_script"] (defScope slaw) := ⟨rfl, rfl, rfl, by decide +kernel, rfl, by decide +kernel, by decide +kernel⟩
end Nn

namespace Nn
open PySem PySem.Spec PyProof.Rows L2
/-! ### min of a list of texts -/
theorem argBest_str (v : Nat → List Nat) : ∀ k, argBest (fun i j => decide (v i < v j)) k ≤ k ∧ ∀ j, j ≤ k → v (argBest (fun i j => decide (v i < v j)) k) ≤ v j
  | 0 => ⟨Nat.le_refl _, fun j hj => by
      have : j = 0 := by omega
      subst this; exact List.le_refl _⟩
  | k + 1 => by
    obtain ⟨h1, h2⟩ := argBest_str v k
    simp only [argBest]
    by_cases hc : v (k + 1) < v (argBest (fun i j => decide (v i < v j)) k)
    · rw [if_pos (by simpa using hc)]
      refine ⟨Nat.le_refl _, fun j hj => ?_⟩
      rcases Nat.lt_or_ge j (k + 1) with hlt | hge
      · exact List.le_trans (List.le_of_lt hc) (h2 j (by omega))
      · have : j = k + 1 := by omega
        subst this; exact List.le_refl _
    · rw [if_neg (by simpa using hc)]
      refine ⟨by omega, fun j hj => ?_⟩
      rcases Nat.lt_or_ge j (k + 1) with hlt | hge
      · exact h2 j (by omega)
      · have : j = k + 1 := by omega
        subst this; exact List.not_lt.mp hc
def txtAt (ss : List Str) (i : Nat) : Str := ss.getD i ⟨#[]⟩
theorem txt_mem {ss : List Str} {i : Nat} (h : i < ss.length) : txtAt ss i ∈ ss := by
  unfold txtAt
  rw [List.getD_eq_getElem?_getD, List.getElem?_eq_getElem h]
  exact List.getElem_mem h
theorem strs_at : ∀ {vs : List Value} {ss : List Str}, StrsAre vs ss → ∀ {i : Nat} {v : Value}, vs[i]? = some v → ∃ t, v = .str (txtAt ss i) t
  | _, _, .nil, i, v, h => by cases h
  | _, _, .cons y t r, 0, v, h => by cases h; exact ⟨t, rfl⟩
  | _, _, .cons y t r, i + 1, v, h => strs_at r (i := i) h
theorem strs_len : ∀ {vs : List Value} {ss : List Str}, StrsAre vs ss → vs.length = ss.length
  | _, _, .nil => rfl
  | _, _, .cons _ _ r => by rw [List.length_cons, List.length_cons, strs_len r]
section
variable {prog : Program} {w : World} {A : Around} {E : Value → Shared → Prop} {s : Shared} {l : Addr} {its : List Value} {ss : List Str} {Q : Value → Shared → Prop}
theorem cmp_strs {P : Nat → Value → Prop} (val : Nat → Str) (hval : ∀ i v, P i v → ∃ t, v = .str (val i) t) : CmpOf prog w A .Lt P (fun i j => decide ((val i).cps.toList < (val j).cps.toList)) := fun i j vi vj s Q E hi hj h => by
  obtain ⟨t, rfl⟩ := hval i vi hi
  obtain ⟨u, rfl⟩ := hval j vj hj
  exact richCompare_gives (op := .Lt) (typeIs_str s _ t) (typeIs_str s _ u) F.slot_str_lt F.entry_str_lt (F.args_str_lt_2 _ _) (gives_str_lt _ _ t u) (fun x => nomatch x) h
theorem min_strs (hh : A.handled = none) (hl : s.heap.IsList l its.toArray) (hi : StrsAre its ss) (hne : 0 < ss.length)
    (h : ∀ h' tk M t', (∀ b o, s.heap.get? b = some o → h'.get? b = some o) → M ∈ ss → (∀ a, a ∈ ss → M.cps.toList ≤ a.cps.toList) → Q (.str M t') { s with heap := h', toks := tk }) : wpAny (model prog w) A (call (.builtin "min") [.ref l]) Q E s := by
  have hlt : l < s.heap.objs.size := by obtain ⟨_, e, _⟩ := hl; exact Heap.lt_size e
  have hlen := strs_len hi
  refine call_min_walk (wpAny_pyIter_list hl ?_)
  refine ⟨_, _, _, _, _, _, _, rfl, Walks.list (A := A.in1) hh _ l (Nat.ne_of_lt hlt) its.toArray, ⟨⟨_, Heap.get?_push_size _ rfl, rfl, rfl⟩, hl.push _⟩, fun b hb => ?_, by simpa [hlen] using hne, cmp_strs (txtAt ss) (fun i v hv => strs_at hi (by simpa using hv)), fun v h' tk hP hk => ?_⟩
  · show b < (s.heap.push _).objs.size
    rw [Heap.size_push]
    rcases List.mem_cons.mp hb with rfl | hb
    · exact Nat.lt_succ_self _
    · rcases List.mem_cons.mp hb with rfl | hb
      · exact Nat.lt_succ_of_lt hlt
      · cases hb
  · obtain ⟨h1, h2⟩ := argBest_str (fun i => (txtAt ss i).cps.toList) (its.toArray.size - 1)
    obtain ⟨t, rfl⟩ := strs_at hi (i := argBest (fun i j => decide ((txtAt ss i).cps.toList < (txtAt ss j).cps.toList)) (its.toArray.size - 1)) (v := v) (by simpa using hP)
    have hsz : its.toArray.size = ss.length := by simpa using hlen
    refine h h' tk _ t (old_kept hk) ?_ fun a ha => ?_
    · exact txt_mem (by omega)
    · obtain ⟨j, hj, rfl⟩ := List.mem_iff_getElem.mp ha
      have := h2 j (by omega)
      have e : txtAt ss j = ss[j] := by unfold txtAt; rw [List.getD_eq_getElem?_getD, List.getElem?_eq_getElem hj]; rfl
      rw [← e]
      exact this
end
/-- min(xs) of a list of texts -/
def rMinS (K : PySem.W.Frag) : List V → Hp → VK → Prop := fun vs H Q => ∃ (a : Addr) (xs : List Str), vs = [V.ref a] ∧ SqL K H a (xs.map V.str) ∧ 0 < xs.length ∧ ∀ m, m ∈ xs → (∀ y, y ∈ xs → m.cps.toList ≤ y.cps.toList) → Q (.str m) H
theorem cr_minS {X : Cx} (hc : X.calm = true) : CallR X (.builtin "min") (rMinS X.K) := by
  intro pins s σ H vs us Q I r h
  obtain ⟨a, ns, rfl, hs, hne, q⟩ := h
  obtain ⟨its, rv, hl, _⟩ := I.list hs
  rw [Vals.ref1 r]
  exact min_strs (I.ok.hd hc) hl.isList rv.strs hne fun h' tk m t' hk h1 h2 => ⟨.str _, H, I.kept hk, ⟨_, rfl⟩, q m h1 h2⟩
end Nn

namespace Nn
open PySem PySem.Spec PyProof.Rows L2
local macro_rules | `(tactic| walk_at "rd1") => `(tactic| first
  | with_reducible refine' rd_c ?_
  | ((with_reducible refine' rd_var ?h ?_); (case h => rfl))
  | with_reducible refine' rd_op ?_
  | with_reducible refine' rd_I0 ?_
  | with_reducible refine' rd_seq ?_
  | ((with_reducible refine' rd_mod ?h ?_); (case h => decide))
  | ((with_reducible refine' rd_fdiv ?h ?_); (case h => exact ⟨by decide, by decide⟩))
  | ((with_reducible refine' rd_pow ?h ?_); (case h => exact ⟨by decide, by decide, by decide⟩))
  | ((with_reducible refine' rd_mul ?h ?_); (case h => first | exact Or.inl (by decide) | exact Or.inr (by decide)))
  | with_reducible refine' rd_set ?_
  | with_reducible refine' rd_asg ?_
  | with_reducible refine' rd_cons ?_
  | with_reducible refine' rd_nil ?_
  | with_reducible refine' rd_call ?_
  | with_reducible refine' rd_cb ?_
  | with_reducible refine' rd_if ?_
  | with_reducible refine' rd_test ?_
  | with_reducible refine' rd_B ?_
  | with_reducible refine' rd_bl ?_
  | ((with_reducible refine' rd_eq ?h ?_); (case h => rfl))
  | ((with_reducible refine' rd_ne ?h ?_); (case h => rfl))
  | with_reducible refine' rd_not ?_
  | with_reducible refine' rd_and ?_
  | with_reducible refine' rd_or ?_
  | with_reducible refine' rd_notV ?_
  | with_reducible refine' rd_chain ?_
  | with_reducible refine' rd_ret ?_
  | with_reducible refine' rd_drop ?_
  | with_reducible refine' rd_next' ?_
  | with_reducible refine' rd_lst ?_
  | with_reducible refine' rd_tup ?_
  | with_reducible refine' rd_lc ?_
  | with_reducible refine' rd_rng1 ?_
  | with_reducible refine' rd_istr ?_
  | with_reducible refine' rd_ilst ?_
  | with_reducible refine' rd_ienum ?_
  | with_reducible refine' rd_bm0 ?_
  | with_reducible refine' rd_bm ?_
  | with_reducible refine' rd_m1 ?_
  | with_reducible refine' rd_sl ?_
  | with_reducible refine' rd_po0 ?_
  | with_reducible refine' rd_po1 ?_
  | with_reducible refine' rd_in ?_
  | with_reducible refine' rd_sub ?_
  | with_reducible refine' rd_ifE ?_
  | with_reducible refine' rd_un ?_
  | with_reducible refine' rd_U ?_
  | with_reducible refine' rd_brk ?_
  | with_reducible refine' rd_cont ?_
  | with_reducible refine' rd_yes ?_
  | with_reducible refine' rd_T ?_
  | with_reducible refine' rd_F ?_
  | with_reducible refine' rd_nT ?_
  | with_reducible refine' rd_nF ?_
  | with_reducible refine' rd_dni ?_
  | with_reducible refine' rd_di ?_
  | with_reducible refine' rd_dget ?_
  | with_reducible refine' rd_dget1 ?_
  | with_reducible refine' rd_dget2 ?_
  | with_reducible refine' rd_dget2N ?_
  | with_reducible refine' rd_dpop1 ?_
  | with_reducible refine' rd_ddel ?_
  | with_reducible refine' rd_mkN ?_
  | with_reducible refine' rd_mkV ?_
  | with_reducible refine' rd_dput ?_
  | with_reducible refine' rd_dnew ?_
  | with_reducible refine' rd_ikeys ?_
  | with_reducible refine' rd_gn ?_
  | with_reducible refine' rd_for ?_
  | with_reducible refine' rd_make ?_
  | with_reducible refine' rd_meth ?_
  | with_reducible refine' rd_fld ?_
  | with_reducible refine' rd_sfld ?_
  | with_reducible refine' rd_dc ?_
  | with_reducible refine' rd_items ?_
  | with_reducible refine' rd_sadd ?_
  | with_reducible refine' rd_ivals ?_
  | with_reducible refine' rd_callS ?_
  | with_reducible refine' rd_makeS ?_
  | with_reducible refine' rd_methS ?_
  | with_reducible refine' rd_fldH ?_
  | with_reducible refine' rd_mkO ?_)
local macro_rules | `(tactic| walk_at "sub") => `(tactic| repeat' (first | exact List.nil_sublist _ | exact List.Sublist.refl _ | apply List.Sublist.cons₂ | apply List.Sublist.cons))
local macro_rules | `(tactic| walk_at "rd") => `(tactic| repeat walk_at "rd1")

section
variable {P : Program} {w : World} {K : PySem.W.Frag} {mg : Str → Option Value} {base : Heap}
/-! ### the state -/
def Sd (s : Int) : Prop := 0 ≤ s ∧ s < 2147483647
def spState : Sp := fun vs H Q _ => ∃ (c k : Int), vs = [.int c, .int k] ∧ ∀ s p H', Sd s → H p = none → H' p = some (.lst [.int s]) → Kp [] H H' → Q (.ref p) H'
theorem ok__law_state {f : Addr} {fd : FuncData} (F : Fun K "_law_state" "_law_state" s_law_state f fd) : FnOk P w K mg base CX0 1 f fd ["_law_cell", "_law_k"] spState := by
  refine F.ok sc_law_state (fun vs H Q E h => by obtain ⟨c, k, rfl, _⟩ := h; rfl) (fun cdv A outer s H vs Q E hr h => ?_)
  obtain ⟨c, k, rfl, q⟩ := h
  refine ⟨_, pss_one (ps_ret (pe_lst (pa_cons (pe_op op_add pe_int (pe_op op_mod (pe_op op_add (pv 0) (pe_op op_mul pe_int (pv 1))) pe_int)) pa_nil))), ?_⟩
  walk_at "rd"
  refine ⟨szl rfl, fun p hp => q _ p _ ?_ hp upd_same (fun a o e _ => by rw [upd_ne (ne_of_none e hp)]; exact e)⟩
  have h1 := Int.emod_nonneg (c + 104729 * k) (b := 2147483645) (by decide)
  have h2 := Int.emod_lt_of_pos (c + 104729 * k) (b := 2147483645) (by decide)
  exact ⟨by omega, by omega⟩
def spNext : Sp := fun vs H Q _ => ∃ (S : Addr) (s n : Int), vs = [.ref S, .int n] ∧ H S = some (.lst [.int s]) ∧ Sd s ∧ 0 < n ∧ ∀ s' r H', Sd s' → 0 ≤ r → r < n → Kp [S] H H' → H' S = some (.lst [.int s']) → Q (.int r) H'
theorem ok__law_next {f : Addr} {fd : FuncData} (F : Fun K "_law_next" "_law_next" s_law_next f fd) : FnOk P w K mg base CX0 1 f fd ["_law_state_here", "_law_size"] spNext := by
  refine F.ok sc_law_next (fun vs H Q E h => by obtain ⟨S, s, n, rfl, _⟩ := h; rfl) (fun cdv A outer s0 H vs Q E hr h => ?_)
  obtain ⟨S, s, n, rfl, hS, hs, hn, q⟩ := h
  refine ⟨_, pss_cons (ps_asg (pe_op op_mod (pe_op op_mul (pe_ix ix_list (pv 0) pe_int (fun _ _ => rfl)) pe_int) pe_int) (pg_sub (pv 0) pe_int set_list))
  (pss_one (ps_ret (pe_op op_mod (pe_op op_fdiv (pe_op op_mod (pe_op op_add (pe_op op_mul (pe_ix ix_list (pv 0) pe_int (fun _ _ => rfl)) (pe_ix ix_list (pv 0) pe_int (fun _ _ => rfl))) (pe_op op_mul pe_int (pe_ix ix_list (pv 0) pe_int (fun _ _ => rfl)))) pe_int) pe_int) (pv 1)))), ?_⟩
  have A := At.one hS
  walk_at "rd"
  refine rd_ixL (A.lst 0 rfl) (by rfl) ?_
  walk_at "rd"
  have h1 := Int.emod_nonneg (s * 48271) (b := 2147483647) (by decide)
  have h2 := Int.emod_lt_of_pos (s * 48271) (b := 2147483647) (by decide)
  refine rd_setL A 0 rfl (by rfl) fun H1 A1 => ?_
  generalize s * 48271 % 2147483647 = t at *
  walk_at "rd"
  refine rd_ixL (A1.lst 0 rfl) (by rfl) ?_
  walk_at "rd"
  refine rd_ixL (A1.lst 0 rfl) (by rfl) ?_
  walk_at "rd"
  refine rd_mul (Or.inl ⟨by omega, by omega⟩) ?_
  walk_at "rd"
  refine rd_ixL (A1.lst 0 rfl) (by rfl) ?_
  walk_at "rd"
  refine rd_mod hn ?_
  exact q t _ H1 ⟨h1, h2⟩ (Int.emod_nonneg _ (by omega)) (Int.emod_lt_of_pos _ hn) A1.keep (A1.get 0 rfl)
/-! ### is_name -/
def signOk (c : Nat) : Bool := decide (97 ≤ c) && decide (c ≤ 122)
def nameOk (z : Str) : Bool := decide (1 ≤ z.length ∧ z.length ≤ 8) && z.cps.toList.all signOk
theorem lt1 (a b : Nat) : ([a] < [b]) ↔ a < b := by
  constructor
  · intro h
    rcases List.cons_lt_cons_iff.mp h with h | ⟨_, h⟩
    · exact h
    · exact absurd h (by simp)
  · intro h
    exact List.cons_lt_cons_iff.mpr (.inl h)
theorem cps_a : ("a" : Str).cps.toList = [97] := by decide +kernel
theorem cps_z : ("z" : Str).cps.toList = [122] := by decide +kernel
def spIsName (K : PySem.W.Frag) : Sp := fun vs H Q _ => ∃ x t b, vs = [x] ∧ TyX K H x t ∧ PySem.W.kitOne K t (.type "str") = some b ∧
  (b = true → ∃ z : Str, x = .str z ∧ z.length ≤ 1000 ∧ ∀ H', Kp [] H H' → Q (.bl (nameOk z)) H') ∧ (b = false → ∀ H', Kp [] H H' → Q (.bl false) H')
theorem ok_is_name {f : Addr} {fd : FuncData} (F : Fun K "is_name" "is_name" sis_name f fd) (B : Blt mg) (g_LONGEST : ∃ tk, mg "LONGEST" = some (.int 8 tk)) : FnOk P w K mg base CX0 1 f fd ["thing"] (spIsName K) := by
  refine F.ok scis_name (fun vs H Q E h => by obtain ⟨x, t, b, rfl, _⟩ := h; rfl) (fun cdv A outer s0 H vs Q E hr h => ?_)
  obtain ⟨x, t, b, rfl, ty, kit, k1, k2⟩ := h
  refine ⟨_, pss_cons (ps_if (PW.pt (pw_or (pt_not (pt_val (pe_callB call_isi (by rfl) B.isinstance (by decide +kernel) (pa_cons (pv 0) (pa_cons (pe_ty (T := "str") (by rfl) B.str (by decide +kernel)) pa_nil))))) (pw_or1 (pt_not (pt_chain op_le op_le pe_int (pe_callB call_len_str (by rfl) B.len (by decide +kernel) (pa_cons (pv 0) pa_nil)) (pe_gint (by rfl) g_LONGEST)))))) (pss_one (ps_ret pe_bl))
   (pss_nil))
  (pss_one (ps_ret (pe_callB (cr_all rfl) (by rfl) B.all (by decide +kernel) (pa_cons (pe_lc (own := [("sign", 1)]) rfl scis_name.nd (pi_str (pv 0)) (blkOk_by (N := Nis_name) (sc := defScope sis_name) (by decide +kernel)) (fun _ _ _ _ _ => (pg_name (i := 1) scis_name.nd rfl (Or.inl rfl))) (fun _ _ _ _ _ => pts_nil) (fun _ _ _ _ _ => (pe_chain op_le_str op_le_str pe_str (pv 1) pe_str))) pa_nil)))), ?_⟩
  have A := At.nil H
  walk_at "rd"
  refine ⟨x, .ty "str", t, .type "str", b, rfl, .ty "str", ty, kit, rd_bl ?_⟩
  cases b with
  | false =>
    walk_at "rd"
    exact k2 rfl H (Kp.refl H)
  | true =>
    obtain ⟨z, rfl, hz, q⟩ := k1 rfl
    walk_at "rd"
    refine ⟨z, rfl, szn (by omega), ?_⟩
    walk_at "rd"
    refine rd_ite (fun h1 => ?_) (fun h1 => ?_)
    · walk_at "rd"
      refine rd_iteN (fun h2 => ?_) (fun h2 => ?_)
      · walk_at "rd"
        have e : nameOk z = false := by
          unfold nameOk
          rw [decide_eq_false (by omega)]
          rfl
        have := q H (Kp.refl H)
        rw [e] at this
        exact this
      · walk_at "rd"
        refine ⟨z, rfl, fun D hD => ?_⟩
        refine lc_it walk_str (fun i H' => At [] H H' [(D, .lst ((z.cps.toList.take i).map fun c => V.bl (signOk c)))] []) (A.snoc hD _) (fun _ _ _ _ => trivial) ?_ ?_
        · rintro i x H1 H2 hi A1 ⟨rfl, c, hc, rfl⟩
          refine ⟨rfl, ?_⟩
          walk_at "rd"
          refine ⟨_, _, rfl, rfl, rd_bl ?_⟩
          have e1 : (!decide ((⟨#[c]⟩ : Str).cps.toList < ("a" : Str).cps.toList)) = decide (97 ≤ c) := by
            rw [cps_a, show (⟨#[c]⟩ : Str).cps.toList = [c] from rfl, ← decide_not]
            exact decide_eq_decide.mpr (by rw [lt1]; omega)
          have e2 : (!decide (("z" : Str).cps.toList < (⟨#[c]⟩ : Str).cps.toList)) = decide (c ≤ 122) := by
            rw [cps_z, show (⟨#[c]⟩ : Str).cps.toList = [c] from rfl, ← decide_not]
            exact decide_eq_decide.mpr (by rw [lt1]; omega)
          have hcl : z.cps.toList[i]? = some c := by rw [Array.getElem?_toList]; exact hc
          have et : ((z.cps.toList.take (i + 1)).map fun c => V.bl (signOk c)) = ((z.cps.toList.take i).map fun c => V.bl (signOk c)) ++ [.bl (signOk c)] := by
            rw [List.take_add_one, hcl, List.map_append]; rfl
          have hl : ((z.cps.toList.take i).map fun c => V.bl (signOk c)).length < sizeLine := by
            rw [List.length_map, List.length_take]
            refine szn' ?_
            have : z.cps.toList.length ≤ 1000 := by rw [Array.length_toList]; exact hz
            omega
          rw [e1]
          refine rd_ite (fun h3 => ?_) (fun h3 => ?_)
          · walk_at "rd"
            refine ⟨_, _, rfl, rfl, ?_⟩
            rw [e2]
            refine ⟨_, A1.get 0 rfl, hl, ?_⟩
            have e3 : signOk c = decide (c ≤ 122) := by unfold signOk; rw [decide_eq_true h3, Bool.true_and]
            rw [et, e3]
            exact A1.set 0 rfl _
          · refine ⟨_, A1.get 0 rfl, hl, ?_⟩
            have e3 : signOk c = false := by unfold signOk; rw [decide_eq_false h3, Bool.false_and]
            rw [et, e3]
            exact A1.set 0 rfl _
        · intro H1 A1
          walk_at "rd"
          refine ⟨D, z.cps.toList.map signOk, rfl, ?_, ?_⟩
          · have := A1.lst (K := K) 0 rfl
            rw [show z.cps.size = z.cps.toList.length from (Array.length_toList).symm, List.take_length] at this
            rw [List.map_map]
            exact this
          · have e : nameOk z = (z.cps.toList.map signOk).all id := by
              unfold nameOk
              rw [decide_eq_true (by omega), Bool.true_and, List.all_map]
              rfl
            rw [← e]
            exact q H1 A1.keep
    · walk_at "rd"
      have e : nameOk z = false := by
        unfold nameOk
        rw [decide_eq_false (by omega)]
        rfl
      have := q H (Kp.refl H)
      rw [e] at this
      exact this
section
variable {M : List Addr} {H0 H : Hp} {L T : List (Addr × HO)} {S : Addr} {s n : Int} {Q : VK} {E : XK}
theorem rd_state (A : At M H0 H L T) {c k : Int} (q : ∀ s p H', Sd s → At M H0 H' (L ++ [(p, .lst [.int s])]) T → Q (.ref p) H') : spState [.int c, .int k] H Q E :=
  ⟨c, k, rfl, fun s p H' hs hn hp kp => q s p H' hs (A.add (A.c0 kp) rfl hn hp)⟩
theorem rd_next (A : At M H0 H L T) (i : Nat) (h : L[i]? = some (S, .lst [.int s])) (hs : Sd s) (hn : 0 < n) (q : ∀ s' r H', Sd s' → 0 ≤ r → r < n → At M H0 H' (L.set i (S, .lst [.int s'])) T → Q (.int r) H') : spNext [.ref S, .int n] H Q E :=
  ⟨S, s, n, rfl, A.in h, hs, hn, fun s' r H' a b c k e => q s' r H' a b c (A.c1 i h k e)⟩
theorem rd_name (A : At M H0 H L T) {z : Str} (hz : z.length ≤ 1000) (q : ∀ H', At M H0 H' L T → Q (.bl (nameOk z)) H') : spIsName K [.str z] H Q E :=
  ⟨.str z, .type "str", true, rfl, .base (.str z), kit_ty (by decide +kernel), fun _ => ⟨z, rfl, hz, fun H' k => q H' (A.c0 k)⟩, fun e => by cases e⟩
theorem rd_noname (A : At M H0 H L T) {x : V} {t : String} (ty : TyX K H x (.type t)) (kit : kitB t "str" = some false) (q : ∀ H', At M H0 H' L T → Q (.bl false) H') : spIsName K [x] H Q E :=
  ⟨x, .type t, false, rfl, ty, kit_ty kit, (fun e => by cases e), fun _ H' k => q H' (A.c0 k)⟩
end
theorem dp_strs {K : PySem.W.Frag} {H : Hp} : ∀ zs : List Str, DpAll K H (zs.map V.str) (zs.map PyData.str)
  | [] => .nil
  | z :: zs => .cons (.str z) (dp_strs zs)
theorem depth_strs : ∀ zs : List Str, PyData.depthAll (zs.map PyData.str) = 0
  | [] => rfl
  | z :: zs => by
    show max (PyData.depth (.str z)) (PyData.depthAll (zs.map PyData.str)) = 0
    rw [depth_strs zs]; rfl
theorem lay_strs : ∀ zs : List Str, (∀ z ∈ zs, PyData.strOk z = true) → PyData.canLayAll0 (zs.map PyData.str) = true
  | [], _ => rfl
  | z :: zs, h => by
    show (PyData.canLay0 (.str z) && PyData.canLayAll0 (zs.map PyData.str)) = true
    rw [lay_strs zs (fun y hy => h y (List.mem_cons_of_mem _ hy))]
    show (PyData.strOk z && true) = true
    rw [h z List.mem_cons_self]; rfl
theorem shaped_strs {zs : List Str} (h : ∀ z ∈ zs, PyData.strOk z = true) : SeqAt.shaped (.list (zs.map PyData.str)) = true := by
  unfold SeqAt.shaped
  rw [show PyData.canLay0 (.list (zs.map PyData.str)) = PyData.canLayAll0 (zs.map PyData.str) from rfl, lay_strs zs h]
  rw [show PyData.depth (.list (zs.map PyData.str)) = PyData.depthAll (zs.map PyData.str) + 1 from rfl, depth_strs]
  rfl
/-- the list of one-sign texts -/
def sg (l : List Nat) : List V := l.map fun c => V.str ⟨#[c]⟩
def sgs (l : List Nat) : List Str := l.map fun c => (⟨#[c]⟩ : Str)
theorem sg_sgs (l : List Nat) : sg l = (sgs l).map V.str := by unfold sg sgs; rw [List.map_map]; rfl
theorem sg_len (l : List Nat) : (sg l).length = l.length := by unfold sg; rw [List.length_map]
theorem join_sg : ∀ l : List Nat, TL.joinL [] (l.map fun c => [c]) = l
  | [] => rfl
  | [c] => rfl
  | c :: d :: r => by
    show [c] ++ ([] ++ TL.joinL [] ((d :: r).map fun c => [c])) = c :: d :: r
    rw [join_sg (d :: r)]; rfl
theorem str_nil : ("" : Str) = SX.S [] := by decide +kernel
theorem join_sgs (l : List Nat) : Txt.join "" (sgs l) = SX.S l := by
  have e : sgs l = (l.map fun c => [c]).map SX.S := by unfold sgs; rw [List.map_map]; rfl
  rw [str_nil, e, SX.join_S, join_sg]
theorem eqv_nil (l : List Nat) : PyData.eqv (.list ((sgs l).map PyData.str)) (.list []) = decide (l = []) := by
  cases l with
  | nil => rfl
  | cons c r => rfl
theorem sgs_ok {l : List Nat} (h : ∀ c ∈ l, c < 1000) : ∀ z ∈ sgs l, PyData.strOk z = true := by
  intro z hz
  obtain ⟨c, hc, rfl⟩ := List.mem_map.mp hz
  have := h c hc
  show (#[c] : Array Nat).all (· < 0x110000) = true
  simp
  omega
theorem sgs_size (l : List Nat) : ((sgs l).map (·.length)).sum + (sgs l).length * ("" : Str).length = l.length := by
  unfold sgs
  rw [List.map_map, List.length_map, show ("" : Str).length = 0 by decide +kernel, Nat.mul_zero, Nat.add_zero]
  induction l with
  | nil => rfl
  | cons c r ih => rw [List.map_cons, List.sum_cons, ih, List.length_cons]; show 1 + _ = _; omega
def letters : Str := "abcdefghijklmnopqrstuvwxyz"
def odd : Str := "AZ09 .-_\n\t'{@`"
theorem letters_ok : ∀ c ∈ letters.cps.toList, signOk c = true ∧ c < 1000 := by decide +kernel
theorem odd_ok : ∀ c ∈ odd.cps.toList, signOk c = false ∧ c < 1000 := by decide +kernel
theorem letters_len : letters.cps.toList.length = 26 := by decide +kernel
theorem odd_len : odd.cps.toList.length = 14 := by decide +kernel
theorem nameOk_S (l : List Nat) : nameOk (SX.S l) = (decide (1 ≤ l.length ∧ l.length ≤ 8) && l.all signOk) := by
  unfold nameOk
  rw [SX.S_len]
end
end Nn

namespace Nn
open PySem PySem.Spec PyProof.Rows L2
local macro_rules | `(tactic| walk_at "rd1") => `(tactic| first
  | with_reducible refine' rd_c ?_
  | ((with_reducible refine' rd_var ?h ?_); (case h => rfl))
  | with_reducible refine' rd_op ?_
  | with_reducible refine' rd_I0 ?_
  | with_reducible refine' rd_seq ?_
  | ((with_reducible refine' rd_mod ?h ?_); (case h => decide))
  | ((with_reducible refine' rd_fdiv ?h ?_); (case h => exact ⟨by decide, by decide⟩))
  | ((with_reducible refine' rd_pow ?h ?_); (case h => exact ⟨by decide, by decide, by decide⟩))
  | ((with_reducible refine' rd_mul ?h ?_); (case h => first | exact Or.inl (by decide) | exact Or.inr (by decide)))
  | with_reducible refine' rd_set ?_
  | with_reducible refine' rd_asg ?_
  | with_reducible refine' rd_cons ?_
  | with_reducible refine' rd_nil ?_
  | with_reducible refine' rd_call ?_
  | with_reducible refine' rd_cb ?_
  | with_reducible refine' rd_if ?_
  | with_reducible refine' rd_test ?_
  | with_reducible refine' rd_B ?_
  | with_reducible refine' rd_bl ?_
  | ((with_reducible refine' rd_eq ?h ?_); (case h => rfl))
  | ((with_reducible refine' rd_ne ?h ?_); (case h => rfl))
  | with_reducible refine' rd_not ?_
  | with_reducible refine' rd_and ?_
  | with_reducible refine' rd_or ?_
  | with_reducible refine' rd_notV ?_
  | with_reducible refine' rd_chain ?_
  | with_reducible refine' rd_ret ?_
  | with_reducible refine' rd_drop ?_
  | with_reducible refine' rd_next' ?_
  | with_reducible refine' rd_lst ?_
  | with_reducible refine' rd_tup ?_
  | with_reducible refine' rd_lc ?_
  | with_reducible refine' rd_rng1 ?_
  | with_reducible refine' rd_istr ?_
  | with_reducible refine' rd_ilst ?_
  | with_reducible refine' rd_ienum ?_
  | with_reducible refine' rd_bm0 ?_
  | with_reducible refine' rd_bm ?_
  | with_reducible refine' rd_m1 ?_
  | with_reducible refine' rd_sl ?_
  | with_reducible refine' rd_po0 ?_
  | with_reducible refine' rd_po1 ?_
  | with_reducible refine' rd_in ?_
  | with_reducible refine' rd_sub ?_
  | with_reducible refine' rd_ifE ?_
  | with_reducible refine' rd_un ?_
  | with_reducible refine' rd_U ?_
  | with_reducible refine' rd_brk ?_
  | with_reducible refine' rd_cont ?_
  | with_reducible refine' rd_yes ?_
  | with_reducible refine' rd_T ?_
  | with_reducible refine' rd_F ?_
  | with_reducible refine' rd_nT ?_
  | with_reducible refine' rd_nF ?_
  | with_reducible refine' rd_dni ?_
  | with_reducible refine' rd_di ?_
  | with_reducible refine' rd_dget ?_
  | with_reducible refine' rd_dget1 ?_
  | with_reducible refine' rd_dget2 ?_
  | with_reducible refine' rd_dget2N ?_
  | with_reducible refine' rd_dpop1 ?_
  | with_reducible refine' rd_ddel ?_
  | with_reducible refine' rd_mkN ?_
  | with_reducible refine' rd_mkV ?_
  | with_reducible refine' rd_dput ?_
  | with_reducible refine' rd_dnew ?_
  | with_reducible refine' rd_ikeys ?_
  | with_reducible refine' rd_gn ?_
  | with_reducible refine' rd_for ?_
  | with_reducible refine' rd_make ?_
  | with_reducible refine' rd_meth ?_
  | with_reducible refine' rd_fld ?_
  | with_reducible refine' rd_sfld ?_
  | with_reducible refine' rd_dc ?_
  | with_reducible refine' rd_items ?_
  | with_reducible refine' rd_sadd ?_
  | with_reducible refine' rd_ivals ?_
  | with_reducible refine' rd_callS ?_
  | with_reducible refine' rd_makeS ?_
  | with_reducible refine' rd_methS ?_
  | with_reducible refine' rd_fldH ?_
  | with_reducible refine' rd_mkO ?_)
local macro_rules | `(tactic| walk_at "sub") => `(tactic| repeat' (first | exact List.nil_sublist _ | exact List.Sublist.refl _ | apply List.Sublist.cons₂ | apply List.Sublist.cons))
local macro_rules | `(tactic| walk_at "rd") => `(tactic| repeat walk_at "rd1")

/-! ### the word of an error -/
def ErrCs.at (Cs : ErrCs) : Nat → Addr
  | 0 => Cs.name
  | 1 => Cs.twice
  | 2 => Cs.missing
  | 3 => Cs.held
  | 4 => Cs.letgo
  | 5 => Cs.spare
  | _ => Cs.row
def Flt.ix : Flt → Nat
  | .name => 0
  | .twice _ => 1
  | .missing _ => 2
  | .held _ => 3
  | .letgo _ => 4
  | .spare _ => 5
  | .row _ => 6
def Flt.word : Flt → Str
  | .name => "name"
  | .twice _ => "twice"
  | .missing _ => "missing"
  | .held _ => "held"
  | .letgo _ => "letgo"
  | .spare _ => "spare"
  | .row _ => "row"
def Flt.fld : Flt → PyData
  | .name => .none
  | .twice z => .str z
  | .missing z => .str z
  | .held z => .str z
  | .letgo z => .str z
  | .spare zs => .tuple (zs.map .str)
  | .row n => .int n
def Flt.d (x : Flt) : PyData := .tuple [.str x.word, x.fld]
theorem Flt.at_ix (Cs : ErrCs) (x : Flt) : Cs.at x.ix = x.cls Cs := by cases x <;> rfl
theorem Flt.ix_lt (x : Flt) : x.ix < 7 := by cases x <;> simp [Flt.ix]
/-- what the written part says of the seven classes -/
structure ErrK (K : PySem.W.Frag) (Cs : ErrCs) : Prop where
  exc : ∀ i, i < 7 → ExcC K (Cs.at i)
  kit : ∀ i j, i < 7 → j < 7 → PySem.W.kitOne K (.ref (Cs.at i)) (.ref (Cs.at j)) = some (decide (i = j))
  ve : ∀ i, i < 7 → PySem.W.kitOne K (.ref (Cs.at i)) (.type "ValueError") = some true
  nT : PySem.W.findIn K (.ref Cs.twice) "name" = some none
  nM : PySem.W.findIn K (.ref Cs.missing) "name" = some none
  nH : PySem.W.findIn K (.ref Cs.held) "name" = some none
  nL : PySem.W.findIn K (.ref Cs.letgo) "name" = some none
  nS : PySem.W.findIn K (.ref Cs.spare) "ring" = some none
  nR : PySem.W.findIn K (.ref Cs.row) "row" = some none
/-- the clause that catches them all -/
structure ErrN (K : PySem.W.Frag) (mg : Str → Option Value) (Cs : ErrCs) (CN : Addr) : Prop where
  ex : ∀ i, i < 7 → PySem.W.exmOne K (.ref (Cs.at i)) (.ref CN) = some true
  g : mg "NewError" = some (.ref CN)
theorem ErrN.of {K : PySem.W.Frag} {mg : Str → Option Value} {Cs : ErrCs} {CN : Addr} (h : ErrN K mg Cs CN) (x : Flt) : PySem.W.exmOne K (.ref (x.cls Cs)) (.ref CN) = some true := by rw [← x.at_ix]; exact h.ex _ x.ix_lt
theorem ErrAt.kp {H H' : Hp} {a C : Addr} {d : Option Addr} {fs : List (Str × V)} (h : ErrAt H a C d fs) (k : Kp [] H H') : ErrAt H' a C d fs := by
  cases h with
  | bare h => exact .bare (k _ _ h (by simp))
  | own h hd => exact .own (k _ _ h (by simp)) (k _ _ hd (by simp))
theorem fldIs.kp {H H' : Hp} {x : Flt} {fs : List (Str × V)} (h : fldIs H x fs) (k : Kp [] H H') : fldIs H' x fs := by
  cases x with
  | spare zs =>
    obtain ⟨t, e, ht⟩ := h
    exact ⟨t, e, k _ _ ht (by simp)⟩
  | _ => exact h
theorem ErrIs.kp {Cs : ErrCs} {H H' : Hp} {a : Addr} {x : Flt} (h : ErrIs Cs H a x) (k : Kp [] H H') : ErrIs Cs H' a x := by
  obtain ⟨d, fs, h1, h2, h3⟩ := h
  exact ⟨d, fs, h1.kp k, h2.kp k, h3⟩
section
variable {P : Program} {w : World} {K : PySem.W.Frag} {mg : Str → Option Value} {base : Heap}
theorem nes_ (a b : Str) (h : decide (a = b) = false) {A B : Prop} (k : B) : if decide (V.str a = V.str b) = true then A else B := by
  rw [decide_eq_false fun e => of_decide_eq_false h (V.str.inj e), if_neg Bool.false_ne_true]
  exact k
theorem yes_ (a : Str) {A B : Prop} (k : A) : if decide (V.str a = V.str a) = true then A else B := by
  rw [decide_eq_true rfl, if_pos rfl]
  exact k
theorem rd_isH {Cs : ErrCs} (Y : ErrK K Cs) {H : Hp} {a : Addr} {x : Flt} {Q : VK} (h : ErrIs Cs H a x) (j : Nat) (hj : j < 7) (q : Q (.bl (decide (x.ix = j))) H) : rIsH K [.ref a, .ref (Cs.at j)] H Q := by
  obtain ⟨d, fs, h1, _⟩ := h
  rw [← x.at_ix] at h1
  exact ⟨a, _, d, fs, .ref (Cs.at j), .ref (Cs.at j), _, rfl, .own _, h1, Y.exc _ x.ix_lt, Y.kit _ _ x.ix_lt hj, q⟩
theorem rd_isHV {Cs : ErrCs} (Y : ErrK K Cs) {H : Hp} {a : Addr} {x : Flt} {Q : VK} (h : ErrIs Cs H a x) (q : Q (.bl true) H) : rIsH K [.ref a, .ty "ValueError"] H Q := by
  obtain ⟨d, fs, h1, _⟩ := h
  rw [← x.at_ix] at h1
  exact ⟨a, _, d, fs, .ty "ValueError", .type "ValueError", _, rfl, .ty _, h1, Y.exc _ x.ix_lt, Y.ve _ x.ix_lt, q⟩
def spWordOf (K : PySem.W.Frag) (Cs : ErrCs) : Sp := fun vs H Q _ => ∃ (a : Addr) (x : Flt), vs = [.ref a] ∧ ErrIs Cs H a x ∧
  ∀ H' p v, Kp [] H H' → H p = none → H' p = some (.tup [.str x.word, v]) → (∀ G, Kp [] H' G → Dp K G v x.fld) → Q (.ref p) H'
structure GWord (mg : Str → Option Value) (Cs : ErrCs) : Prop where
  NoName : mg "NoName" = some (.ref Cs.name)
  Twice : mg "Twice" = some (.ref Cs.twice)
  Missing : mg "Missing" = some (.ref Cs.missing)
  Held : mg "Held" = some (.ref Cs.held)
  LetGo : mg "LetGo" = some (.ref Cs.letgo)
  NoSpare : mg "NoSpare" = some (.ref Cs.spare)
  NoRow : mg "NoRow" = some (.ref Cs.row)
/-- a refusal out of a try whose error is kept -/
theorem thrown_keep {Cs : ErrCs} {c : Value} {i j : Nat} {D : Ends} {σ : L2.St} {N : List Addr} {H : Hp} {x : Flt} (hm : PySem.W.exmOne K (.ref (x.cls Cs)) c = some true) (hi : i < σ.length)
    (k : ∀ a H', Kp N H H' → ErrIs Cs H' a x → D.nx (((σ.set i (some (.ref a))).set j (some (.ref a))).set i none) H') : Thrown Cs N H (WE (wKeep K c i (fun _ _ _ => tAsg (tVar i) (gName j)) D) σ) x := by
  have hs : ∀ a : Addr, (σ.set i (some (V.ref a)))[i]? = some (some (.ref a)) := fun a => List.getElem?_set_self hi
  have kk : ∀ {H1 : Hp} {a : Addr} {o : HO}, Kp N H H1 → H1 a = none → Kp N H (upd H1 a o) := fun k1 ha b o hb hn => by
    rw [upd_ne (ne_of_none (k1 b o hb hn) ha)]; exact k1 b o hb hn
  have k0 : ∀ {H1 : Hp} {a : Addr} {o : HO}, H1 a = none → Kp [] H1 (upd H1 a o) := fun ha b o hb _ => by
    rw [upd_ne (ne_of_none hb ha)]; exact hb
  cases x with
  | name => exact fun H1 k1 => ⟨hm, fun a ha => ⟨_, hs a, fun ha' => k a _ (kk k1 ha') ⟨none, [], .bare upd_same, rfl, fun h => absurd rfl h⟩⟩⟩
  | _ =>
    exact fun d fs H1 hd k1 h1 hf => ⟨hm, fun a ha => ⟨_, hs a, fun ha' => k a _ (kk k1 ha') ⟨some d, fs, .own upd_same (by rw [upd_ne (ne_of_none h1 ha')]; exact h1), hf.kp (k0 ha'), fun _ => by simp⟩⟩⟩
end
end Nn

namespace Nn
open PySem PySem.Spec PyProof.Rows L2
local macro_rules | `(tactic| walk_at "rd1") => `(tactic| first
  | with_reducible refine' rd_c ?_
  | ((with_reducible refine' rd_var ?h ?_); (case h => rfl))
  | with_reducible refine' rd_op ?_
  | with_reducible refine' rd_I0 ?_
  | with_reducible refine' rd_seq ?_
  | ((with_reducible refine' rd_mod ?h ?_); (case h => decide))
  | ((with_reducible refine' rd_fdiv ?h ?_); (case h => exact ⟨by decide, by decide⟩))
  | ((with_reducible refine' rd_pow ?h ?_); (case h => exact ⟨by decide, by decide, by decide⟩))
  | ((with_reducible refine' rd_mul ?h ?_); (case h => first | exact Or.inl (by decide) | exact Or.inr (by decide)))
  | with_reducible refine' rd_set ?_
  | with_reducible refine' rd_asg ?_
  | with_reducible refine' rd_cons ?_
  | with_reducible refine' rd_nil ?_
  | with_reducible refine' rd_call ?_
  | with_reducible refine' rd_cb ?_
  | with_reducible refine' rd_if ?_
  | with_reducible refine' rd_test ?_
  | with_reducible refine' rd_B ?_
  | with_reducible refine' rd_bl ?_
  | ((with_reducible refine' rd_eq ?h ?_); (case h => rfl))
  | ((with_reducible refine' rd_ne ?h ?_); (case h => rfl))
  | with_reducible refine' rd_not ?_
  | with_reducible refine' rd_and ?_
  | with_reducible refine' rd_or ?_
  | with_reducible refine' rd_notV ?_
  | with_reducible refine' rd_chain ?_
  | with_reducible refine' rd_ret ?_
  | with_reducible refine' rd_drop ?_
  | with_reducible refine' rd_next' ?_
  | with_reducible refine' rd_lst ?_
  | with_reducible refine' rd_tup ?_
  | with_reducible refine' rd_lc ?_
  | with_reducible refine' rd_rng1 ?_
  | with_reducible refine' rd_istr ?_
  | with_reducible refine' rd_ilst ?_
  | with_reducible refine' rd_ienum ?_
  | with_reducible refine' rd_bm0 ?_
  | with_reducible refine' rd_bm ?_
  | with_reducible refine' rd_m1 ?_
  | with_reducible refine' rd_sl ?_
  | with_reducible refine' rd_po0 ?_
  | with_reducible refine' rd_po1 ?_
  | with_reducible refine' rd_in ?_
  | with_reducible refine' rd_sub ?_
  | with_reducible refine' rd_ifE ?_
  | with_reducible refine' rd_un ?_
  | with_reducible refine' rd_U ?_
  | with_reducible refine' rd_brk ?_
  | with_reducible refine' rd_cont ?_
  | with_reducible refine' rd_yes ?_
  | with_reducible refine' rd_T ?_
  | with_reducible refine' rd_F ?_
  | with_reducible refine' rd_nT ?_
  | with_reducible refine' rd_nF ?_
  | with_reducible refine' rd_dni ?_
  | with_reducible refine' rd_di ?_
  | with_reducible refine' rd_dget ?_
  | with_reducible refine' rd_dget1 ?_
  | with_reducible refine' rd_dget2 ?_
  | with_reducible refine' rd_dget2N ?_
  | with_reducible refine' rd_dpop1 ?_
  | with_reducible refine' rd_ddel ?_
  | with_reducible refine' rd_mkN ?_
  | with_reducible refine' rd_mkV ?_
  | with_reducible refine' rd_dput ?_
  | with_reducible refine' rd_dnew ?_
  | with_reducible refine' rd_ikeys ?_
  | with_reducible refine' rd_gn ?_
  | with_reducible refine' rd_for ?_
  | with_reducible refine' rd_make ?_
  | with_reducible refine' rd_meth ?_
  | with_reducible refine' rd_fld ?_
  | with_reducible refine' rd_sfld ?_
  | with_reducible refine' rd_dc ?_
  | with_reducible refine' rd_items ?_
  | with_reducible refine' rd_sadd ?_
  | with_reducible refine' rd_ivals ?_
  | with_reducible refine' rd_callS ?_
  | with_reducible refine' rd_makeS ?_
  | with_reducible refine' rd_methS ?_
  | with_reducible refine' rd_fldH ?_
  | with_reducible refine' rd_mkO ?_)
local macro_rules | `(tactic| walk_at "sub") => `(tactic| repeat' (first | exact List.nil_sublist _ | exact List.Sublist.refl _ | apply List.Sublist.cons₂ | apply List.Sublist.cons))
local macro_rules | `(tactic| walk_at "rd") => `(tactic| repeat walk_at "rd1")

/-! ### fourteen unlike names -/
structure Pool (ps : List Str) : Prop where
  len : ps.length = 14
  nd : ps.Nodup
  ok : ∀ z ∈ ps, nameOk z = true
theorem nameOk_len {z : Str} (h : nameOk z = true) : 1 ≤ z.length ∧ z.length ≤ 8 := by
  unfold nameOk at h
  rw [Bool.and_eq_true] at h
  exact of_decide_eq_true h.1
theorem nameOk_sign {z : Str} (h : nameOk z = true) : ∀ c ∈ z.cps.toList, signOk c = true := by
  unfold nameOk at h
  rw [Bool.and_eq_true] at h
  exact fun c hc => List.all_eq_true.mp h.2 c hc
theorem signOk_lt {c : Nat} (h : signOk c = true) : 97 ≤ c ∧ c ≤ 122 := by
  unfold signOk at h
  rw [Bool.and_eq_true] at h
  exact ⟨of_decide_eq_true h.1, of_decide_eq_true h.2⟩
theorem nameOk_ok {z : Str} (h : nameOk z = true) : PyData.strOk z = true := by
  unfold PyData.strOk
  rw [← Array.all_toList]
  exact List.all_eq_true.mpr fun c hc => decide_eq_true (by have := (signOk_lt (nameOk_sign h c hc)).2; omega)
theorem nodup_mapr {α : Type} {f : Nat → α} {n : Nat} (h : ∀ i j, i < j → j < n → f i ≠ f j) : ((List.range n).map f).Nodup := by
  rw [List.Nodup, List.pairwise_map]
  exact (List.pairwise_lt_range (n := n)).imp_of_mem fun {a b} ha hb hab => h a b hab (List.mem_range.mp hb)
def lt (i : Int) : Nat := 97 + i.toNat
theorem letters_at {i : Int} (h0 : 0 ≤ i) (h : i < 26) : atI letters.cps.toList i = some (lt i) := by
  have key : ∀ j : Fin 26, letters.cps.toList[j.val]? = some (97 + j.val) := by decide +kernel
  obtain ⟨j, rfl⟩ := Int.eq_ofNat_of_zero_le h0
  exact atI_nat (key ⟨j, by omega⟩)
theorem lt_ok {i : Int} (h0 : 0 ≤ i) (h : i < 26) : signOk (lt i) = true := by
  unfold signOk lt
  rw [Bool.and_eq_true]
  exact ⟨decide_eq_true (by omega), decide_eq_true (by omega)⟩
def nmA (b : List Nat) (step : Int) (k : Nat) : List Nat := lt ((step + 5 * (k : Int)) % 26) :: b.take (((k : Int) + step) % 4).toNat
def nmB (b : List Nat) (step spot : Int) (k : Nat) : List Nat := b.take spot.toNat ++ [lt ((step + 7 * (k : Int)) % 26)] ++ b.drop spot.toNat
theorem pool_A {b : List Nat} {step : Int} (hb : ∀ c ∈ b, signOk c = true) (hl : b.length ≤ 7) : Pool ((List.range 14).map fun k => SX.S (nmA b step k)) := by
  refine ⟨by rw [List.length_map, List.length_range], nodup_mapr fun i j hij hj e => ?_, ?_⟩
  · have e := SX.S_inj e
    unfold nmA lt at e
    have := (List.cons.inj e).1
    omega
  · intro z hz
    obtain ⟨k, _, rfl⟩ := List.mem_map.mp hz
    rw [nameOk_S]
    unfold nmA
    have := List.length_take_le (((k : Int) + step) % 4).toNat b
    rw [Bool.and_eq_true]
    refine ⟨decide_eq_true ?_, ?_⟩
    · rw [List.length_cons, List.length_take]; omega
    · rw [List.all_cons, lt_ok (Int.emod_nonneg _ (by decide)) (Int.emod_lt_of_pos _ (by decide)), Bool.true_and]
      exact List.all_eq_true.mpr fun c hc => hb c (List.mem_of_mem_take hc)
theorem pool_B {b : List Nat} {step spot : Int} (hb : ∀ c ∈ b, signOk c = true) (hl : b.length ≤ 7) : Pool ((List.range 14).map fun k => SX.S (nmB b step spot k)) := by
  refine ⟨by rw [List.length_map, List.length_range], nodup_mapr fun i j hij hj e => ?_, ?_⟩
  · have e := SX.S_inj e
    unfold nmB at e
    rw [List.append_assoc, List.append_assoc] at e
    have e1 := List.append_cancel_left e
    have := (List.cons.inj e1).1
    unfold lt at this
    omega
  · intro z hz
    obtain ⟨k, _, rfl⟩ := List.mem_map.mp hz
    rw [nameOk_S]
    unfold nmB
    rw [Bool.and_eq_true]
    refine ⟨decide_eq_true ?_, ?_⟩
    · rw [List.length_append, List.length_append, List.length_take, List.length_drop]; show 1 ≤ _ + 1 + _ ∧ _ + 1 + _ ≤ 8; omega
    · rw [List.all_append, List.all_append]
      have h1 : (b.take spot.toNat).all signOk = true := List.all_eq_true.mpr fun c hc => hb c (List.mem_of_mem_take hc)
      have h2 : (b.drop spot.toNat).all signOk = true := List.all_eq_true.mpr fun c hc => hb c (List.mem_of_mem_drop hc)
      rw [h1, h2, List.all_cons, lt_ok (Int.emod_nonneg _ (by decide)) (Int.emod_lt_of_pos _ (by decide))]; rfl
section
variable {P : Program} {w : World} {K : PySem.W.Frag} {mg : Str → Option Value} {base : Heap}
structure C1 (P : Program) (w : World) (K : PySem.W.Frag) (mg : Str → Option Value) (base : Heap) : Prop where
  _law_next : Cl P w K mg base 1 "_law_next" spNext
def spPool : Sp := fun vs H Q _ => ∃ (S : Addr) (s : Int), vs = [.ref S] ∧ H S = some (.lst [.int s]) ∧ Sd s ∧
  ∀ s' p ps H', Sd s' → Pool ps → H p = none → H' p = some (.lst (ps.map V.str)) → Kp [S] H H' → H' S = some (.lst [.int s']) → Q (.ref p) H'
end
end Nn

namespace Nn
open PySem PySem.Spec PyProof.Rows L2
theorem strOk_tl {z : Str} (h : ∀ c ∈ TL.tl z, c < 0x110000) : PyData.strOk z = true := by
  unfold PyData.strOk
  rw [← Array.all_toList]
  exact List.all_eq_true.mpr fun c hc => decide_eq_true (h c hc)
/-- a text that is short -/
def Short (z : Str) : Prop := z.length ≤ 1000 ∧ PyData.strOk z = true
theorem short_cps {z : Str} (h : Short z) : ∀ c ∈ z.cps.toList, c < 16 ^ 8 := by
  have := h.2
  unfold PyData.strOk at this
  rw [← Array.all_toList] at this
  intro c hc
  have := of_decide_eq_true (List.all_eq_true.mp this c hc)
  omega
theorem short_name {z : Str} (h : nameOk z = true) : Short z := ⟨by have := nameOk_len h; omega, nameOk_ok h⟩
theorem short_repr {z : Str} (h : Short z) : (reprText z).length ≤ 10002 := by
  have := PySem.StrLaws.reprText_len z (short_cps h)
  have := h.1
  omega
def ShP (e : Str × Option Str) : Prop := Short e.1 ∧ ∀ z, e.2 = some z → Short z
end Nn

namespace Nn
open PySem PySem.Spec PyProof.Rows L2
local macro_rules | `(tactic| walk_at "rd1") => `(tactic| first
  | with_reducible refine' rd_c ?_
  | ((with_reducible refine' rd_var ?h ?_); (case h => rfl))
  | with_reducible refine' rd_op ?_
  | with_reducible refine' rd_I0 ?_
  | with_reducible refine' rd_seq ?_
  | ((with_reducible refine' rd_mod ?h ?_); (case h => decide))
  | ((with_reducible refine' rd_fdiv ?h ?_); (case h => exact ⟨by decide, by decide⟩))
  | ((with_reducible refine' rd_pow ?h ?_); (case h => exact ⟨by decide, by decide, by decide⟩))
  | ((with_reducible refine' rd_mul ?h ?_); (case h => first | exact Or.inl (by decide) | exact Or.inr (by decide)))
  | with_reducible refine' rd_set ?_
  | with_reducible refine' rd_asg ?_
  | with_reducible refine' rd_cons ?_
  | with_reducible refine' rd_nil ?_
  | with_reducible refine' rd_call ?_
  | with_reducible refine' rd_cb ?_
  | with_reducible refine' rd_if ?_
  | with_reducible refine' rd_test ?_
  | with_reducible refine' rd_B ?_
  | with_reducible refine' rd_bl ?_
  | ((with_reducible refine' rd_eq ?h ?_); (case h => rfl))
  | ((with_reducible refine' rd_ne ?h ?_); (case h => rfl))
  | with_reducible refine' rd_not ?_
  | with_reducible refine' rd_and ?_
  | with_reducible refine' rd_or ?_
  | with_reducible refine' rd_notV ?_
  | with_reducible refine' rd_chain ?_
  | with_reducible refine' rd_ret ?_
  | with_reducible refine' rd_drop ?_
  | with_reducible refine' rd_next' ?_
  | with_reducible refine' rd_lst ?_
  | with_reducible refine' rd_tup ?_
  | with_reducible refine' rd_lc ?_
  | with_reducible refine' rd_rng1 ?_
  | with_reducible refine' rd_istr ?_
  | with_reducible refine' rd_ilst ?_
  | with_reducible refine' rd_ienum ?_
  | with_reducible refine' rd_bm0 ?_
  | with_reducible refine' rd_bm ?_
  | with_reducible refine' rd_m1 ?_
  | with_reducible refine' rd_sl ?_
  | with_reducible refine' rd_po0 ?_
  | with_reducible refine' rd_po1 ?_
  | with_reducible refine' rd_in ?_
  | with_reducible refine' rd_sub ?_
  | with_reducible refine' rd_ifE ?_
  | with_reducible refine' rd_un ?_
  | with_reducible refine' rd_U ?_
  | with_reducible refine' rd_brk ?_
  | with_reducible refine' rd_cont ?_
  | with_reducible refine' rd_yes ?_
  | with_reducible refine' rd_T ?_
  | with_reducible refine' rd_F ?_
  | with_reducible refine' rd_nT ?_
  | with_reducible refine' rd_nF ?_
  | with_reducible refine' rd_dni ?_
  | with_reducible refine' rd_di ?_
  | with_reducible refine' rd_dget ?_
  | with_reducible refine' rd_dget1 ?_
  | with_reducible refine' rd_dget2 ?_
  | with_reducible refine' rd_dget2N ?_
  | with_reducible refine' rd_dpop1 ?_
  | with_reducible refine' rd_ddel ?_
  | with_reducible refine' rd_mkN ?_
  | with_reducible refine' rd_mkV ?_
  | with_reducible refine' rd_dput ?_
  | with_reducible refine' rd_dnew ?_
  | with_reducible refine' rd_ikeys ?_
  | with_reducible refine' rd_gn ?_
  | with_reducible refine' rd_for ?_
  | with_reducible refine' rd_make ?_
  | with_reducible refine' rd_meth ?_
  | with_reducible refine' rd_fld ?_
  | with_reducible refine' rd_sfld ?_
  | with_reducible refine' rd_dc ?_
  | with_reducible refine' rd_items ?_
  | with_reducible refine' rd_sadd ?_
  | with_reducible refine' rd_ivals ?_
  | with_reducible refine' rd_callS ?_
  | with_reducible refine' rd_makeS ?_
  | with_reducible refine' rd_methS ?_
  | with_reducible refine' rd_fldH ?_
  | with_reducible refine' rd_mkO ?_)
local macro_rules | `(tactic| walk_at "sub") => `(tactic| repeat' (first | exact List.nil_sublist _ | exact List.Sublist.refl _ | apply List.Sublist.cons₂ | apply List.Sublist.cons))
local macro_rules | `(tactic| walk_at "rd") => `(tactic| repeat walk_at "rd1")

section
variable {P : Program} {w : World} {K : PySem.W.Frag} {mg : Str → Option Value} {base : Heap}
/-! ### a list in a drawn order -/
theorem strs_ne (zs : List Str) (s : Int) : zs.map V.str ≠ [V.int s] := by
  cases zs with
  | nil => intro e; cases e
  | cons z r => intro e; cases e
/-- a list of texts stands while the state changes -/
theorem Kp.strs {S a : Addr} {s : Int} {H H' : Hp} {zs : List Str} (k : Kp [S] H H') (hS : H S = some (.lst [.int s])) (h : SqL K H a (zs.map V.str)) : SqL K H' a (zs.map V.str) := by
  rcases h with (h | ⟨o, h⟩) | h
  · refine .inl (.inl (k _ _ h fun e => ?_))
    rw [List.mem_singleton] at e
    subst e
    rw [hS] at h
    exact strs_ne zs s (HO.lst.inj (Option.some.inj h)).symm
  · refine .inl (.inr ⟨o, k _ _ h fun e => ?_⟩)
    rw [List.mem_singleton] at e
    subst e
    rw [hS] at h
    cases h
  · exact .inr h
theorem eqv_strs_nil (zs : List Str) : PyData.eqv (.list (zs.map PyData.str)) (.list []) = decide (zs = []) := by
  cases zs with
  | nil => rfl
  | cons c r => rfl
def spTurned (K : PySem.W.Frag) : Sp := fun vs H Q _ => ∃ (S a : Addr) (s : Int) (zs : List Str), vs = [.ref S, .ref a] ∧ H S = some (.lst [.int s]) ∧ Sd s ∧ SqL K H a (zs.map V.str) ∧ (∀ z ∈ zs, PyData.strOk z = true) ∧ zs.length ≤ 1000 ∧
  ∀ s' p ys H', Sd s' → List.Perm ys zs → H p = none → H' p = some (.lst (ys.map V.str)) → Kp [S] H H' → H' S = some (.lst [.int s']) → Q (.ref p) H'
theorem ok__law_turned {f : Addr} {fd : FuncData} (F : Fun K "_law_turned" "_law_turned" s_law_turned f fd) (B : Blt mg) (C : C1 P w K mg base) : FnOk P w K mg base CX0 2 f fd P_law_turned (spTurned K) := by
  refine F.ok sc_law_turned (fun vs H Q E h => by obtain ⟨S, a, s, zs, rfl, _⟩ := h; rfl) (fun cdv A outer s0 H vs Q E hr h => ?_)
  obtain ⟨S, a, s, zs, rfl, hS, hs, hZ, hok, hlen, q⟩ := h
  refine ⟨_, pss_cons (ps_set (i := 2) sc_law_turned.nd rfl (Or.inl rfl) (pe_callTy call_list_of (by rfl) B.list (by decide +kernel) (pa_cons (pv 1) pa_nil)))
  (pss_cons (ps_set (i := 3) sc_law_turned.nd rfl (Or.inl rfl) (pe_lst pa_nil))
  (pss_cons (ps_while PassesOwn.never (pt_cmpR (op_neD hr.units) (pv 2) (pe_lst pa_nil) (nomark _)) (pss_one (ps_expr (pe_bm PySem.F.plainAttrs_list PySem.F.slot_list_append PySem.F.type_list_append mt_append (pv 3) (pa_cons (pe_bm PySem.F.plainAttrs_list PySem.F.slot_list_pop PySem.F.type_list_pop mt_popAt (pv 2) (pa_cons (pe_cl C._law_next hr (by omega) (by rfl) (pa_cons (pv 0) (pa_cons (pe_callB call_len_seq (by rfl) B.len (by decide +kernel) (pa_cons (pv 2) pa_nil)) pa_nil))) pa_nil)) pa_nil)))))
  (pss_one (ps_ret (pv 3))))), ?_⟩
  have A := At.one hS
  walk_at "rd"
  refine ⟨_, _, rfl, .inl hZ, fun l1 hl1 => A.u2 hl1 fun H1 A1 => ?_⟩
  walk_at "rd"
  refine ⟨szl, fun l2 hl2 => A1.u2 hl2 fun H2 A2 => ?_⟩
  walk_at "rd"
  refine rd_while (fun m σ H' => ∃ (s : Int) (left found : List Str), Sd s ∧ left.length = m ∧ List.Perm (found ++ left) zs ∧ σ = [some (.ref S), some (.ref a), some (.ref l1), some (.ref l2)] ∧
    At [S] H H' [(S, .lst [.int s]), (l1, .lst (left.map V.str)), (l2, .lst (found.map V.str))] []) zs.length ⟨s, zs, [], hs, rfl, List.Perm.refl _, rfl, A2⟩ ?_
  rintro m σ H3 ⟨s, left, found, hs, rfl, hp, rfl, A3⟩
  have hlok : ∀ z ∈ left, PyData.strOk z = true := fun z hz => hok z (hp.mem_iff.mp (List.mem_append_right _ hz))
  have hll : found.length + left.length = zs.length := by rw [← List.length_append]; exact hp.length_eq
  walk_at "rd"
  refine ⟨szl, fun e he => ?_⟩
  refine ⟨.list (left.map PyData.str), .list [], .lst ((A3.skip (Sk.of he)).lst 1 rfl) (dp_strs _), .lst (.inl (.inl upd_same)) .nil, shaped_strs hlok, rfl, ?_⟩
  have A4 := A3.skip (Sk.of (o := .lst []) he)
  rw [eqv_strs_nil]
  refine rd_bl ?_
  refine rd_iteN (fun hne => ?_) (fun hnil => ?_)
  · have hpos : 0 < left.length := List.length_pos_iff.mpr hne
    refine ⟨_, fun _ _ h => h, ?_⟩
    walk_at "rd"
    refine ⟨.inl ⟨rfl, _, A4.lst 2 rfl⟩, ?_⟩
    walk_at "rd"
    refine ⟨.inl ⟨rfl, _, A4.lst 1 rfl⟩, ?_⟩
    walk_at "rd"
    refine ⟨_, _, rfl, .inl (A4.lst 1 rfl), ?_⟩
    rw [List.length_map]
    walk_at "rd"
    refine rd_next A4 0 rfl hs (by omega) fun s' r H5 hs' h0 h1 A5 => ?_
    walk_at "rd"
    have hr : r.toNat < left.length := by omega
    refine ⟨l1, left.map V.str, r, r.toNat, .str left[r.toNat], rfl, rfl, A5.get 1 rfl, by omega, by omega, PySem.StrLaws.seqIndex_nonneg h0 (by rw [List.length_map]; omega), by rw [List.getElem?_map, List.getElem?_eq_getElem hr]; rfl, ?_⟩
    refine A5.s2 1 rfl fun H6 A6 => ?_
    walk_at "rd"
    refine ⟨l2, _, _, rfl, rfl, A6.get 2 rfl, by rw [List.length_map]; exact szn' (by omega), ?_⟩
    have A7 := A6.set 2 rfl (.lst (found.map V.str ++ [.str left[r.toNat]]))
    refine ⟨left.length - 1, by omega, s', left.eraseIdx r.toNat, found ++ [left[r.toNat]], hs', by rw [List.length_eraseIdx_of_lt hr], ?_, rfl, ?_⟩
    · refine List.Perm.trans ?_ hp
      rw [List.append_assoc]
      refine List.Perm.append_left _ ?_
      exact erase_perm hr
    · rw [map_erase] at A7
      rw [List.map_append]
      exact A7
  · walk_at "rd"
    subst hnil
    rw [List.append_nil] at hp
    exact q s l2 found _ hs hp (A4.new0 2 rfl (by rw [List.mem_singleton]; exact A4.ne 2 0 rfl rfl (by decide))) (A4.get 2 rfl) A4.keep (A4.get 0 rfl)
end
end Nn

namespace Nn
open PySem PySem.Spec PyProof.Rows L2
local macro_rules | `(tactic| walk_at "rd1") => `(tactic| first
  | with_reducible refine' rd_c ?_
  | ((with_reducible refine' rd_var ?h ?_); (case h => rfl))
  | with_reducible refine' rd_op ?_
  | with_reducible refine' rd_I0 ?_
  | with_reducible refine' rd_seq ?_
  | ((with_reducible refine' rd_mod ?h ?_); (case h => decide))
  | ((with_reducible refine' rd_fdiv ?h ?_); (case h => exact ⟨by decide, by decide⟩))
  | ((with_reducible refine' rd_pow ?h ?_); (case h => exact ⟨by decide, by decide, by decide⟩))
  | ((with_reducible refine' rd_mul ?h ?_); (case h => first | exact Or.inl (by decide) | exact Or.inr (by decide)))
  | with_reducible refine' rd_set ?_
  | with_reducible refine' rd_asg ?_
  | with_reducible refine' rd_cons ?_
  | with_reducible refine' rd_nil ?_
  | with_reducible refine' rd_call ?_
  | with_reducible refine' rd_cb ?_
  | with_reducible refine' rd_if ?_
  | with_reducible refine' rd_test ?_
  | with_reducible refine' rd_B ?_
  | with_reducible refine' rd_bl ?_
  | ((with_reducible refine' rd_eq ?h ?_); (case h => rfl))
  | ((with_reducible refine' rd_ne ?h ?_); (case h => rfl))
  | with_reducible refine' rd_not ?_
  | with_reducible refine' rd_and ?_
  | with_reducible refine' rd_or ?_
  | with_reducible refine' rd_notV ?_
  | with_reducible refine' rd_chain ?_
  | with_reducible refine' rd_ret ?_
  | with_reducible refine' rd_drop ?_
  | with_reducible refine' rd_next' ?_
  | with_reducible refine' rd_lst ?_
  | with_reducible refine' rd_tup ?_
  | with_reducible refine' rd_lc ?_
  | with_reducible refine' rd_rng1 ?_
  | with_reducible refine' rd_istr ?_
  | with_reducible refine' rd_ilst ?_
  | with_reducible refine' rd_ienum ?_
  | with_reducible refine' rd_bm0 ?_
  | with_reducible refine' rd_bm ?_
  | with_reducible refine' rd_m1 ?_
  | with_reducible refine' rd_sl ?_
  | with_reducible refine' rd_po0 ?_
  | with_reducible refine' rd_po1 ?_
  | with_reducible refine' rd_in ?_
  | with_reducible refine' rd_sub ?_
  | with_reducible refine' rd_ifE ?_
  | with_reducible refine' rd_un ?_
  | with_reducible refine' rd_U ?_
  | with_reducible refine' rd_brk ?_
  | with_reducible refine' rd_cont ?_
  | with_reducible refine' rd_yes ?_
  | with_reducible refine' rd_T ?_
  | with_reducible refine' rd_F ?_
  | with_reducible refine' rd_nT ?_
  | with_reducible refine' rd_nF ?_
  | with_reducible refine' rd_dni ?_
  | with_reducible refine' rd_di ?_
  | with_reducible refine' rd_dget ?_
  | with_reducible refine' rd_dget1 ?_
  | with_reducible refine' rd_dget2 ?_
  | with_reducible refine' rd_dget2N ?_
  | with_reducible refine' rd_dpop1 ?_
  | with_reducible refine' rd_ddel ?_
  | with_reducible refine' rd_mkN ?_
  | with_reducible refine' rd_mkV ?_
  | with_reducible refine' rd_dput ?_
  | with_reducible refine' rd_dnew ?_
  | with_reducible refine' rd_ikeys ?_
  | with_reducible refine' rd_gn ?_
  | with_reducible refine' rd_for ?_
  | with_reducible refine' rd_make ?_
  | with_reducible refine' rd_meth ?_
  | with_reducible refine' rd_fld ?_
  | with_reducible refine' rd_sfld ?_
  | with_reducible refine' rd_dc ?_
  | with_reducible refine' rd_items ?_
  | with_reducible refine' rd_sadd ?_
  | with_reducible refine' rd_ivals ?_
  | with_reducible refine' rd_callS ?_
  | with_reducible refine' rd_makeS ?_
  | with_reducible refine' rd_methS ?_
  | with_reducible refine' rd_fldH ?_
  | with_reducible refine' rd_mkO ?_)
local macro_rules | `(tactic| walk_at "sub") => `(tactic| repeat' (first | exact List.nil_sublist _ | exact List.Sublist.refl _ | apply List.Sublist.cons₂ | apply List.Sublist.cons))
local macro_rules | `(tactic| walk_at "rd") => `(tactic| repeat walk_at "rd1")

section
variable {P : Program} {w : World} {K : PySem.W.Frag} {mg : Str → Option Value} {base : Heap}
/-! ### things -/
def scalV (v : V) : Prop := (∃ i, v = .int i) ∨ ∃ z, v = .str z ∧ PyData.strOk z = true
def spThing : Sp := fun vs H Q _ => ∃ (S : Addr) (s : Int), vs = [.ref S] ∧ H S = some (.lst [.int s]) ∧ Sd s ∧ ∀ s' v H', Sd s' → scalV v → Kp [S] H H' → H' S = some (.lst [.int s']) → Q v H'
section
variable {M : List Addr} {H0 H : Hp} {L T : List (Addr × HO)} {S a : Addr} {s n : Int} {Q : VK} {E : XK}
theorem rd_pool (A : At M H0 H L T) (i : Nat) (h : L[i]? = some (S, .lst [.int s])) (hs : Sd s) (q : ∀ s' p ps H', Sd s' → Pool ps → At M H0 H' (L.set i (S, .lst [.int s']) ++ [(p, .lst (ps.map V.str))]) T → Q (.ref p) H') : spPool [.ref S] H Q E :=
  ⟨S, s, rfl, A.in h, hs, fun s' p ps H' a b c d e g => q s' p ps H' a b (A.add (A.c1 i h e g) (map_set_fst L i h) c d)⟩
theorem rd_turned (A : At M H0 H L T) (i : Nat) (h : L[i]? = some (S, .lst [.int s])) (hs : Sd s) {zs : List Str} (hz : SqL K H a (zs.map V.str)) (hok : ∀ z ∈ zs, PyData.strOk z = true) (hl : zs.length ≤ 1000)
    (q : ∀ s' p ys H', Sd s' → List.Perm ys zs → At M H0 H' (L.set i (S, .lst [.int s']) ++ [(p, .lst (ys.map V.str))]) T → Kp [S] H H' → Q (.ref p) H') : spTurned K [.ref S, .ref a] H Q E :=
  ⟨S, a, s, zs, rfl, A.in h, hs, hz, hok, hl, fun s' p ys H' a b c d e g => q s' p ys H' a b (A.add (A.c1 i h e g) (map_set_fst L i h) c d) e⟩
theorem rd_thing (A : At M H0 H L T) (i : Nat) (h : L[i]? = some (S, .lst [.int s])) (hs : Sd s) (q : ∀ s' v H', Sd s' → scalV v → At M H0 H' (L.set i (S, .lst [.int s'])) T → Q v H') : spThing [.ref S] H Q E :=
  ⟨S, s, rfl, A.in h, hs, fun s' v H' a b e g => q s' v H' a b (A.c1 i h e g)⟩
end
theorem cut_to (xs : List V) (i : Int) (h : 0 ≤ i) : cutV xs none (some i) = xs.take i.toNat := by
  obtain ⟨j, rfl⟩ := Int.eq_ofNat_of_zero_le h
  unfold cutV
  rw [HT.sIx_none, HT.sIx_nat, List.drop_zero, Nat.sub_zero]
  show xs.take (min j xs.length) = xs.take j
  rw [← List.take_eq_take_min]
/-- a dict of texts and values, as pairs -/
def dk (td : List (Str × V)) : List (Key × V) := td.map fun e => ((Sum.inr e.1 : Key), e.2)
theorem dk_keys (td : List (Str × V)) : (dk td).map (·.1) = (td.map (·.1)).map Sum.inr := by unfold dk; rw [List.map_map, List.map_map]; rfl
theorem valV_dk (td : List (Str × V)) (k : Str) : valV (dk td) (Sum.inr k) = (td.find? fun e => decide (e.1 = k)).map (·.2) := by
  induction td with
  | nil => rfl
  | cons e r ih =>
    show valV ((Sum.inr e.1, e.2) :: dk r) (Sum.inr k) = _
    by_cases h : e.1 = k
    · rw [valV_pos (by rw [h]), List.find?_cons_of_pos (by simpa using h)]; rfl
    · rw [valV_neg (fun q => h (Sum.inr.inj q)), ih, List.find?_cons_of_neg (by simpa using h)]
theorem valV_dk_some (td : List (Str × V)) (k : Str) : (valV (dk td) (Sum.inr k)).isSome = decide (k ∈ td.map (·.1)) := by
  rw [← valV_any]
  unfold dk
  induction td with
  | nil => rfl
  | cons e r ih =>
    rw [List.map_cons, List.any_cons, ih, List.map_cons]
    by_cases h : e.1 = k
    · rw [decide_eq_true (by rw [h]), Bool.true_or, decide_eq_true (by rw [h]; exact List.mem_cons_self)]
    · rw [decide_eq_false (fun q => h (Sum.inr.inj q)), Bool.false_or]
      exact decide_eq_decide.mpr ⟨List.mem_cons_of_mem _, fun q => (List.mem_cons.mp q).resolve_left fun z => h z.symm⟩
theorem merge_nodup : ∀ (td acc : List (Str × V)), ((acc ++ td).map (·.1)).Nodup → mergeK (dk acc) (dk td) = dk (acc ++ td)
  | [], acc, _ => by rw [List.append_nil]; rfl
  | e :: r, acc, h => by
    show mergeK (putK (dk acc) (Sum.inr e.1) e.2) (dk r) = _
    have hn : valV (dk acc) (Sum.inr e.1) = none := by
      rw [valV_dk]
      have : (acc.find? fun x => decide (x.1 = e.1)) = none := by
        rw [List.find?_eq_none]
        intro x hx
        rw [List.map_append, List.nodup_append] at h
        have := h.2.2 x.1 (List.mem_map_of_mem (f := Prod.fst) hx) e.1 (List.mem_map_of_mem (f := Prod.fst) List.mem_cons_self)
        simpa using this
      rw [this]; rfl
    rw [putK_new _ hn]
    have e1 : dk acc ++ [((Sum.inr e.1 : Key), e.2)] = dk (acc ++ [e]) := by unfold dk; rw [List.map_append]; rfl
    rw [e1, merge_nodup r (acc ++ [e]) (by rw [List.append_assoc]; exact h), List.append_assoc]; rfl
structure Things (ps : List Str) (td : List (Str × V)) : Prop where
  nd : (td.map (·.1)).Nodup
  sub : ∀ z ∈ td.map (·.1), z ∈ ps
  len : td.length ≤ 10
  sc : ∀ e ∈ td, scalV e.2
/-- a tuple of a text and a value at its address -/
def tE (x : Addr × (Str × V)) : Addr × HO := (x.1, .tup [.str x.2.1, x.2.2])
structure C2 (P : Program) (w : World) (K : PySem.W.Frag) (mg : Str → Option Value) (base : Heap) : Prop extends C1 P w K mg base where
  _law_turned : Cl P w K mg base 2 "_law_turned" (spTurned K)
  _law_thing : Cl P w K mg base 2 "_law_thing" spThing
def spThings (K : PySem.W.Frag) : Sp := fun vs H Q _ => ∃ (S a : Addr) (s : Int) (ps : List Str), vs = [.ref S, .ref a] ∧ H S = some (.lst [.int s]) ∧ Sd s ∧ SqL K H a (ps.map V.str) ∧ Pool ps ∧
  ∀ s' p td H', Sd s' → Things ps td → H p = none → H' p = some (.dK (dk td)) → Kp [S] H H' → H' S = some (.lst [.int s']) → Q (.ref p) H'
end
end Nn

namespace Nn
open PySem PySem.Spec PyProof.Rows L2
local macro_rules | `(tactic| walk_at "rd1") => `(tactic| first
  | with_reducible refine' rd_c ?_
  | ((with_reducible refine' rd_var ?h ?_); (case h => rfl))
  | with_reducible refine' rd_op ?_
  | with_reducible refine' rd_I0 ?_
  | with_reducible refine' rd_seq ?_
  | ((with_reducible refine' rd_mod ?h ?_); (case h => decide))
  | ((with_reducible refine' rd_fdiv ?h ?_); (case h => exact ⟨by decide, by decide⟩))
  | ((with_reducible refine' rd_pow ?h ?_); (case h => exact ⟨by decide, by decide, by decide⟩))
  | ((with_reducible refine' rd_mul ?h ?_); (case h => first | exact Or.inl (by decide) | exact Or.inr (by decide)))
  | with_reducible refine' rd_set ?_
  | with_reducible refine' rd_asg ?_
  | with_reducible refine' rd_cons ?_
  | with_reducible refine' rd_nil ?_
  | with_reducible refine' rd_call ?_
  | with_reducible refine' rd_cb ?_
  | with_reducible refine' rd_if ?_
  | with_reducible refine' rd_test ?_
  | with_reducible refine' rd_B ?_
  | with_reducible refine' rd_bl ?_
  | ((with_reducible refine' rd_eq ?h ?_); (case h => rfl))
  | ((with_reducible refine' rd_ne ?h ?_); (case h => rfl))
  | with_reducible refine' rd_not ?_
  | with_reducible refine' rd_and ?_
  | with_reducible refine' rd_or ?_
  | with_reducible refine' rd_notV ?_
  | with_reducible refine' rd_chain ?_
  | with_reducible refine' rd_ret ?_
  | with_reducible refine' rd_drop ?_
  | with_reducible refine' rd_next' ?_
  | with_reducible refine' rd_lst ?_
  | with_reducible refine' rd_tup ?_
  | with_reducible refine' rd_lc ?_
  | with_reducible refine' rd_rng1 ?_
  | with_reducible refine' rd_istr ?_
  | with_reducible refine' rd_ilst ?_
  | with_reducible refine' rd_ienum ?_
  | with_reducible refine' rd_bm0 ?_
  | with_reducible refine' rd_bm ?_
  | with_reducible refine' rd_m1 ?_
  | with_reducible refine' rd_sl ?_
  | with_reducible refine' rd_po0 ?_
  | with_reducible refine' rd_po1 ?_
  | with_reducible refine' rd_in ?_
  | with_reducible refine' rd_sub ?_
  | with_reducible refine' rd_ifE ?_
  | with_reducible refine' rd_un ?_
  | with_reducible refine' rd_U ?_
  | with_reducible refine' rd_brk ?_
  | with_reducible refine' rd_cont ?_
  | with_reducible refine' rd_yes ?_
  | with_reducible refine' rd_T ?_
  | with_reducible refine' rd_F ?_
  | with_reducible refine' rd_nT ?_
  | with_reducible refine' rd_nF ?_
  | with_reducible refine' rd_dni ?_
  | with_reducible refine' rd_di ?_
  | with_reducible refine' rd_dget ?_
  | with_reducible refine' rd_dget1 ?_
  | with_reducible refine' rd_dget2 ?_
  | with_reducible refine' rd_dget2N ?_
  | with_reducible refine' rd_dpop1 ?_
  | with_reducible refine' rd_ddel ?_
  | with_reducible refine' rd_mkN ?_
  | with_reducible refine' rd_mkV ?_
  | with_reducible refine' rd_dput ?_
  | with_reducible refine' rd_dnew ?_
  | with_reducible refine' rd_ikeys ?_
  | with_reducible refine' rd_gn ?_
  | with_reducible refine' rd_for ?_
  | with_reducible refine' rd_make ?_
  | with_reducible refine' rd_meth ?_
  | with_reducible refine' rd_fld ?_
  | with_reducible refine' rd_sfld ?_
  | with_reducible refine' rd_dc ?_
  | with_reducible refine' rd_items ?_
  | with_reducible refine' rd_sadd ?_
  | with_reducible refine' rd_ivals ?_
  | with_reducible refine' rd_callS ?_
  | with_reducible refine' rd_makeS ?_
  | with_reducible refine' rd_methS ?_
  | with_reducible refine' rd_fldH ?_
  | with_reducible refine' rd_mkO ?_)
local macro_rules | `(tactic| walk_at "sub") => `(tactic| repeat' (first | exact List.nil_sublist _ | exact List.Sublist.refl _ | apply List.Sublist.cons₂ | apply List.Sublist.cons))
local macro_rules | `(tactic| walk_at "rd") => `(tactic| repeat walk_at "rd1")

section
variable {P : Program} {w : World} {K : PySem.W.Frag} {mg : Str → Option Value} {base : Heap}
/-! ### pairs -/
/-- a tuple of an old and a new name at its address -/
def tP (x : Addr × (Str × Option Str)) : Addr × HO := (x.1, .tup [.str x.2.1, ov x.2.2])
structure Pairs (ps : List Str) (td : List (Str × V)) (prs : List (Str × Option Str)) : Prop where
  oldsNd : (prs.map (·.1)).Nodup
  newsNd : (prs.filterMap (·.2)).Nodup
  olds : ∀ z ∈ prs.map (·.1), z ∈ td.map (·.1)
  news : ∀ z ∈ prs.filterMap (·.2), z ∈ ps ∧ (z ∈ td.map (·.1) → z ∈ prs.map (·.1))
  len : prs.length ≤ 10
theorem Kp.strs' {N : List Addr} {a : Addr} {H H' : Hp} {zs : List Str} (k : Kp N H H') (hN : ∀ b ∈ N, ∃ o, H b = some o ∧ (∀ zs : List Str, o ≠ .lst (zs.map V.str)) ∧ ∀ ob u, o ≠ .frz ob u) (h : SqL K H a (zs.map V.str)) : SqL K H' a (zs.map V.str) := by
  rcases h with (h | ⟨o, h⟩) | h
  · refine .inl (.inl (k _ _ h fun hn => ?_))
    obtain ⟨o, e, n1, _⟩ := hN a hn
    rw [h] at e
    exact n1 zs (Option.some.inj e).symm
  · refine .inl (.inr ⟨o, k _ _ h fun hn => ?_⟩)
    obtain ⟨o', e, _, n2⟩ := hN a hn
    rw [h] at e
    exact n2 _ _ (Option.some.inj e).symm
  · exact .inr h
theorem st_no (s : Int) : (∀ zs : List Str, HO.lst [V.int s] ≠ .lst (zs.map V.str)) ∧ ∀ ob u, HO.lst [V.int s] ≠ .frz ob u := ⟨fun zs e => strs_ne zs s (HO.lst.inj e).symm, fun _ _ e => by cases e⟩
theorem dk_no (kvs : List (Key × V)) : (∀ zs : List Str, HO.dK kvs ≠ .lst (zs.map V.str)) ∧ ∀ ob u, HO.dK kvs ≠ .frz ob u := ⟨fun _ e => (by cases e), fun _ _ e => (by cases e)⟩
/-- names enough: a pool, or what is held and a pool -/
structure PoolW (ps : List Str) : Prop where
  len : ps.length ≤ 30
  nd : ps.Nodup
  ok : ∀ z ∈ ps, nameOk z = true
theorem Pool.wide {ps : List Str} (h : Pool ps) : PoolW ps := ⟨by rw [h.len]; omega, h.nd, h.ok⟩
def spPairs (K : PySem.W.Frag) : Sp := fun vs H Q _ => ∃ (S a d : Addr) (s : Int) (ps : List Str) (td : List (Str × V)), vs = [.ref S, .ref a, .ref d] ∧ H S = some (.lst [.int s]) ∧ Sd s ∧ SqL K H a (ps.map V.str) ∧ H d = some (.dK (dk td)) ∧ Pool ps ∧ Things ps td ∧
  ∀ s' p (te : List (Addr × (Str × Option Str))) H', Sd s' → Pairs ps td (te.map (·.2)) → H p = none → H' p = some (.lst (te.map fun x => V.ref x.1)) → (∀ x ∈ te.map tP, H x.1 = none ∧ H' x.1 = some x.2) → Kp [S] H H' → H' S = some (.lst [.int s']) → Q (.ref p) H'
def spPairsW (K : PySem.W.Frag) : Sp := fun vs H Q _ => ∃ (S a d : Addr) (s : Int) (ps : List Str) (td : List (Str × V)), vs = [.ref S, .ref a, .ref d] ∧ H S = some (.lst [.int s]) ∧ Sd s ∧ SqL K H a (ps.map V.str) ∧ H d = some (.dK (dk td)) ∧ PoolW ps ∧ Things ps td ∧
  ∀ s' p (te : List (Addr × (Str × Option Str))) H', Sd s' → Pairs ps td (te.map (·.2)) → H p = none → H' p = some (.lst (te.map fun x => V.ref x.1)) → (∀ x ∈ te.map tP, H x.1 = none ∧ H' x.1 = some x.2) → Kp [S] H H' → H' S = some (.lst [.int s']) → Q (.ref p) H'
end
end Nn

namespace Nn
open PySem PySem.Spec PyProof.Rows L2
local macro_rules | `(tactic| walk_at "rd1") => `(tactic| first
  | with_reducible refine' rd_c ?_
  | ((with_reducible refine' rd_var ?h ?_); (case h => rfl))
  | with_reducible refine' rd_op ?_
  | with_reducible refine' rd_I0 ?_
  | with_reducible refine' rd_seq ?_
  | ((with_reducible refine' rd_mod ?h ?_); (case h => decide))
  | ((with_reducible refine' rd_fdiv ?h ?_); (case h => exact ⟨by decide, by decide⟩))
  | ((with_reducible refine' rd_pow ?h ?_); (case h => exact ⟨by decide, by decide, by decide⟩))
  | ((with_reducible refine' rd_mul ?h ?_); (case h => first | exact Or.inl (by decide) | exact Or.inr (by decide)))
  | with_reducible refine' rd_set ?_
  | with_reducible refine' rd_asg ?_
  | with_reducible refine' rd_cons ?_
  | with_reducible refine' rd_nil ?_
  | with_reducible refine' rd_call ?_
  | with_reducible refine' rd_cb ?_
  | with_reducible refine' rd_if ?_
  | with_reducible refine' rd_test ?_
  | with_reducible refine' rd_B ?_
  | with_reducible refine' rd_bl ?_
  | ((with_reducible refine' rd_eq ?h ?_); (case h => rfl))
  | ((with_reducible refine' rd_ne ?h ?_); (case h => rfl))
  | with_reducible refine' rd_not ?_
  | with_reducible refine' rd_and ?_
  | with_reducible refine' rd_or ?_
  | with_reducible refine' rd_notV ?_
  | with_reducible refine' rd_chain ?_
  | with_reducible refine' rd_ret ?_
  | with_reducible refine' rd_drop ?_
  | with_reducible refine' rd_next' ?_
  | with_reducible refine' rd_lst ?_
  | with_reducible refine' rd_tup ?_
  | with_reducible refine' rd_lc ?_
  | with_reducible refine' rd_rng1 ?_
  | with_reducible refine' rd_istr ?_
  | with_reducible refine' rd_ilst ?_
  | with_reducible refine' rd_ienum ?_
  | with_reducible refine' rd_bm0 ?_
  | with_reducible refine' rd_bm ?_
  | with_reducible refine' rd_m1 ?_
  | with_reducible refine' rd_sl ?_
  | with_reducible refine' rd_po0 ?_
  | with_reducible refine' rd_po1 ?_
  | with_reducible refine' rd_in ?_
  | with_reducible refine' rd_sub ?_
  | with_reducible refine' rd_ifE ?_
  | with_reducible refine' rd_un ?_
  | with_reducible refine' rd_U ?_
  | with_reducible refine' rd_brk ?_
  | with_reducible refine' rd_cont ?_
  | with_reducible refine' rd_yes ?_
  | with_reducible refine' rd_T ?_
  | with_reducible refine' rd_F ?_
  | with_reducible refine' rd_nT ?_
  | with_reducible refine' rd_nF ?_
  | with_reducible refine' rd_dni ?_
  | with_reducible refine' rd_di ?_
  | with_reducible refine' rd_dget ?_
  | with_reducible refine' rd_dget1 ?_
  | with_reducible refine' rd_dget2 ?_
  | with_reducible refine' rd_dget2N ?_
  | with_reducible refine' rd_dpop1 ?_
  | with_reducible refine' rd_ddel ?_
  | with_reducible refine' rd_mkN ?_
  | with_reducible refine' rd_mkV ?_
  | with_reducible refine' rd_dput ?_
  | with_reducible refine' rd_dnew ?_
  | with_reducible refine' rd_ikeys ?_
  | with_reducible refine' rd_gn ?_
  | with_reducible refine' rd_for ?_
  | with_reducible refine' rd_make ?_
  | with_reducible refine' rd_meth ?_
  | with_reducible refine' rd_fld ?_
  | with_reducible refine' rd_sfld ?_
  | with_reducible refine' rd_dc ?_
  | with_reducible refine' rd_items ?_
  | with_reducible refine' rd_sadd ?_
  | with_reducible refine' rd_ivals ?_
  | with_reducible refine' rd_callS ?_
  | with_reducible refine' rd_makeS ?_
  | with_reducible refine' rd_methS ?_
  | with_reducible refine' rd_fldH ?_
  | with_reducible refine' rd_mkO ?_)
local macro_rules | `(tactic| walk_at "sub") => `(tactic| repeat' (first | exact List.nil_sublist _ | exact List.Sublist.refl _ | apply List.Sublist.cons₂ | apply List.Sublist.cons))
local macro_rules | `(tactic| walk_at "rd") => `(tactic| repeat walk_at "rd1")

/-! ### names tested, where that may be refused -/
section
variable {P : Program} {w : World} {K : PySem.W.Frag} {mg : Str → Option Value} {base : Heap}
structure CCheck (P : Program) (w : World) (K : PySem.W.Frag) (mg : Str → Option Value) (base : Heap) : Prop where
  is_name : Cl P w K mg base 1 "is_name" (spIsName K)
structure RCheck (K : PySem.W.Frag) (mg : Str → Option Value) (Cs : ErrCs) : Prop where
  NoName : NoNameC K mg "NoName" Cs.name
def spCheckX (Cs : ErrCs) : Sp := fun vs H Q E => ∃ z : Str, vs = [.str z] ∧ Short z ∧ (nameOk z = true → ∀ H', Kp [] H H' → Q .non H') ∧ (nameOk z = false → Thrown Cs [] H E .name)
theorem ok_check_name {f : Addr} {fd : FuncData} (F : Fun K "check_name" "check_name" scheck_name f fd) (C : CCheck P w K mg base) {Cs : ErrCs} (R : RCheck K mg Cs) : FnOk P w K mg base (L2.CX P w) 2 f fd Pcheck_name (spCheckX Cs) := by
  refine F.okX sccheck_name (fun vs H Q E h => by obtain ⟨z, rfl, _⟩ := h; rfl) (fun cdv A outer s0 H vs Q E hr h => ?_)
  obtain ⟨z, rfl, hz, q1, q2⟩ := h
  refine ⟨_, pss_one (ps_if (pt_not (pt_val (pe_cl C.is_name hr (by omega) (by rfl) (pa_cons (pv 0) pa_nil)))) (pss_one (ps_raise rfl (takes_of rfl rfl rfl rfl) (pmk_noname R.NoName rfl (by rfl) (pe_joined (PJ.cons (pe_fmtR (pv 0)) (PJ.cons pe_str PJ.nil))))))
   (pss_nil)), ?_⟩
  have A := At.nil H
  walk_at "rd"
  refine rd_name A hz.1 fun H1 A1 => ?_
  walk_at "rd"
  cases hn : nameOk z with
  | true =>
    walk_at "rd"
    exact q1 hn H1 A1.keep
  | false =>
    walk_at "rd"
    have hl := short_repr hz
    refine ⟨.str z, rfl, .inl ⟨z, rfl, szn (by omega), reprText z, rfl, ?_, " is no name", rfl, ?_, rd_noName R.NoName (fun a ha => A1.fresh0 ha) (q2 hn H1 A1.keep)⟩⟩
    · rw [PySem.Str.length_append]; exact szn (by show 0 + _ ≤ _; omega)
    · rw [PySem.Str.length_append, PySem.Str.length_append]; exact szn (by show 0 + _ + 11 ≤ _; omega)
theorem thrown_sub {Cs : ErrCs} {M : List Addr} {H0 H : Hp} {L T : List (Addr × HO)} {E : XK} {x : Flt} (A : At M H0 H L T) (th : Thrown Cs M H0 E x) : Thrown Cs [] H E x := by
  cases x with
  | name => exact fun H' k => th H' (A.c0 k).keep
  | _ => exact fun d fs H' hd k => th d fs H' (A.fresh0 hd) (A.c0 k).keep
end
end Nn

namespace Nn
open PySem PySem.Spec PyProof.Rows L2
local macro_rules | `(tactic| walk_at "rd1") => `(tactic| first
  | with_reducible refine' rd_c ?_
  | ((with_reducible refine' rd_var ?h ?_); (case h => rfl))
  | with_reducible refine' rd_op ?_
  | with_reducible refine' rd_I0 ?_
  | with_reducible refine' rd_seq ?_
  | ((with_reducible refine' rd_mod ?h ?_); (case h => decide))
  | ((with_reducible refine' rd_fdiv ?h ?_); (case h => exact ⟨by decide, by decide⟩))
  | ((with_reducible refine' rd_pow ?h ?_); (case h => exact ⟨by decide, by decide, by decide⟩))
  | ((with_reducible refine' rd_mul ?h ?_); (case h => first | exact Or.inl (by decide) | exact Or.inr (by decide)))
  | with_reducible refine' rd_set ?_
  | with_reducible refine' rd_asg ?_
  | with_reducible refine' rd_cons ?_
  | with_reducible refine' rd_nil ?_
  | with_reducible refine' rd_call ?_
  | with_reducible refine' rd_cb ?_
  | with_reducible refine' rd_if ?_
  | with_reducible refine' rd_test ?_
  | with_reducible refine' rd_B ?_
  | with_reducible refine' rd_bl ?_
  | ((with_reducible refine' rd_eq ?h ?_); (case h => rfl))
  | ((with_reducible refine' rd_ne ?h ?_); (case h => rfl))
  | with_reducible refine' rd_not ?_
  | with_reducible refine' rd_and ?_
  | with_reducible refine' rd_or ?_
  | with_reducible refine' rd_notV ?_
  | with_reducible refine' rd_chain ?_
  | with_reducible refine' rd_ret ?_
  | with_reducible refine' rd_drop ?_
  | with_reducible refine' rd_next' ?_
  | with_reducible refine' rd_lst ?_
  | with_reducible refine' rd_tup ?_
  | with_reducible refine' rd_lc ?_
  | with_reducible refine' rd_rng1 ?_
  | with_reducible refine' rd_istr ?_
  | with_reducible refine' rd_ilst ?_
  | with_reducible refine' rd_ienum ?_
  | with_reducible refine' rd_bm0 ?_
  | with_reducible refine' rd_bm ?_
  | with_reducible refine' rd_m1 ?_
  | with_reducible refine' rd_sl ?_
  | with_reducible refine' rd_po0 ?_
  | with_reducible refine' rd_po1 ?_
  | with_reducible refine' rd_in ?_
  | with_reducible refine' rd_sub ?_
  | with_reducible refine' rd_ifE ?_
  | with_reducible refine' rd_un ?_
  | with_reducible refine' rd_U ?_
  | with_reducible refine' rd_brk ?_
  | with_reducible refine' rd_cont ?_
  | with_reducible refine' rd_yes ?_
  | with_reducible refine' rd_T ?_
  | with_reducible refine' rd_F ?_
  | with_reducible refine' rd_nT ?_
  | with_reducible refine' rd_nF ?_
  | with_reducible refine' rd_dni ?_
  | with_reducible refine' rd_di ?_
  | with_reducible refine' rd_dget ?_
  | with_reducible refine' rd_dget1 ?_
  | with_reducible refine' rd_dget2 ?_
  | with_reducible refine' rd_dget2N ?_
  | with_reducible refine' rd_dpop1 ?_
  | with_reducible refine' rd_ddel ?_
  | with_reducible refine' rd_mkN ?_
  | with_reducible refine' rd_mkV ?_
  | with_reducible refine' rd_dput ?_
  | with_reducible refine' rd_dnew ?_
  | with_reducible refine' rd_ikeys ?_
  | with_reducible refine' rd_gn ?_
  | with_reducible refine' rd_for ?_
  | with_reducible refine' rd_make ?_
  | with_reducible refine' rd_meth ?_
  | with_reducible refine' rd_fld ?_
  | with_reducible refine' rd_sfld ?_
  | with_reducible refine' rd_dc ?_
  | with_reducible refine' rd_items ?_
  | with_reducible refine' rd_sadd ?_
  | with_reducible refine' rd_ivals ?_
  | with_reducible refine' rd_callS ?_
  | with_reducible refine' rd_makeS ?_
  | with_reducible refine' rd_methS ?_
  | with_reducible refine' rd_fldH ?_
  | with_reducible refine' rd_mkO ?_)
local macro_rules | `(tactic| walk_at "sub") => `(tactic| repeat' (first | exact List.nil_sublist _ | exact List.Sublist.refl _ | apply List.Sublist.cons₂ | apply List.Sublist.cons))
local macro_rules | `(tactic| walk_at "rd") => `(tactic| repeat walk_at "rd1")

/-! ### plans: the data -/
def dko (prs : List (Str × Option Str)) : List (Key × V) := dk (prs.map fun e => (e.1, ov e.2))
theorem dko_keys (prs : List (Str × Option Str)) : (dko prs).map (·.1) = (prs.map (·.1)).map Sum.inr := by unfold dko; rw [dk_keys, List.map_map, List.map_map, List.map_map]; rfl
theorem dko_len (prs : List (Str × Option Str)) : (dko prs).length = prs.length := by unfold dko dk; rw [List.length_map, List.length_map]
theorem valV_dko (prs : List (Str × Option Str)) (k : Str) : valV (dko prs) (Sum.inr k) = (prs.find? fun e => decide (e.1 = k)).map fun e => ov e.2 := by
  induction prs with
  | nil => rfl
  | cons e r ih =>
    show valV ((Sum.inr e.1, ov e.2) :: dko r) (Sum.inr k) = _
    by_cases h : e.1 = k
    · rw [valV_pos (by rw [h]), List.find?_cons_of_pos (by simpa using h)]; rfl
    · rw [valV_neg (fun q => h (Sum.inr.inj q)), ih, List.find?_cons_of_neg (by simpa using h)]
theorem valV_dko_some (prs : List (Str × Option Str)) (k : Str) : (valV (dko prs) (Sum.inr k)).isSome = decide (k ∈ prs.map (·.1)) := by
  unfold dko
  rw [valV_dk_some, List.map_map]; rfl
theorem putK_dko {prs : List (Str × Option Str)} {z : Str} (o : Option Str) (h : z ∉ prs.map (·.1)) : putK (dko prs) (Sum.inr z) (ov o) = dko (prs ++ [(z, o)]) := by
  have hn : valV (dko prs) (Sum.inr z) = none := by
    have := valV_dko_some prs z
    rw [decide_eq_false h] at this
    exact Option.not_isSome_iff_eq_none.mp (by rw [this]; decide)
  rw [putK_new _ hn]
  unfold dko dk
  rw [List.map_append, List.map_append]; rfl
theorem find_mem {prs : List (Str × Option Str)} (nd : (prs.map (·.1)).Nodup) {e : Str × Option Str} (he : e ∈ prs) : prs.find? (fun x => decide (x.1 = e.1)) = some e := by
  induction prs with
  | nil => cases he
  | cons x r ih =>
    rw [List.map_cons, List.nodup_cons] at nd
    rcases List.mem_cons.mp he with h | h
    · subst h; exact List.find?_cons_of_pos (by simp)
    · rw [List.find?_cons_of_neg, ih nd.2 h]
      intro q
      exact nd.1 (of_decide_eq_true q ▸ List.mem_map_of_mem (f := Prod.fst) h)
/-- where a plan leads an old name (none: let go, or no old name) -/
def toOf (prs : List (Str × Option Str)) (z : Str) : Option Str := ((prs.find? fun e => decide (e.1 = z)).map (·.2)).getD none
theorem toOf_mem {prs : List (Str × Option Str)} (nd : (prs.map (·.1)).Nodup) {e : Str × Option Str} (he : e ∈ prs) : toOf prs e.1 = e.2 := by unfold toOf; rw [find_mem nd he]; rfl
structure Good (prs : List (Str × Option Str)) : Prop where
  old : ∀ e ∈ prs, nameOk e.1 = true
  new : ∀ e ∈ prs, ∀ z, e.2 = some z → nameOk z = true
  oldsNd : (prs.map (·.1)).Nodup
  newsNd : (prs.filterMap (·.2)).Nodup
  len : prs.length < 64
theorem sorted_perm {prs : List (Str × Option Str)} (nd : (prs.map (·.1)).Nodup) {ys : List Str} (h : ys.Perm (prs.map (·.1))) : (ys.map fun z => (z, toOf prs z)).Perm prs := by
  refine (h.map _).trans ?_
  rw [List.map_map]
  have e : prs.map ((fun z => (z, toOf prs z)) ∘ fun x => x.1) = prs := by
    conv => rhs; rw [← List.map_id prs]
    refine List.map_congr_left fun x hx => ?_
    show (x.1, toOf prs x.1) = x
    rw [toOf_mem nd hx]
  rw [e]
structure PlanC (K : PySem.W.Frag) (C : Addr) : Prop where
  cl : Cls K C
  nl : NoAttr K C "_leads"
end Nn

namespace Nn
open PySem PySem.Spec PyProof.Rows L2
local macro_rules | `(tactic| walk_at "rd1") => `(tactic| first
  | with_reducible refine' rd_c ?_
  | ((with_reducible refine' rd_var ?h ?_); (case h => rfl))
  | with_reducible refine' rd_op ?_
  | with_reducible refine' rd_I0 ?_
  | with_reducible refine' rd_seq ?_
  | ((with_reducible refine' rd_mod ?h ?_); (case h => decide))
  | ((with_reducible refine' rd_fdiv ?h ?_); (case h => exact ⟨by decide, by decide⟩))
  | ((with_reducible refine' rd_pow ?h ?_); (case h => exact ⟨by decide, by decide, by decide⟩))
  | ((with_reducible refine' rd_mul ?h ?_); (case h => first | exact Or.inl (by decide) | exact Or.inr (by decide)))
  | with_reducible refine' rd_set ?_
  | with_reducible refine' rd_asg ?_
  | with_reducible refine' rd_cons ?_
  | with_reducible refine' rd_nil ?_
  | with_reducible refine' rd_call ?_
  | with_reducible refine' rd_cb ?_
  | with_reducible refine' rd_if ?_
  | with_reducible refine' rd_test ?_
  | with_reducible refine' rd_B ?_
  | with_reducible refine' rd_bl ?_
  | ((with_reducible refine' rd_eq ?h ?_); (case h => rfl))
  | ((with_reducible refine' rd_ne ?h ?_); (case h => rfl))
  | with_reducible refine' rd_not ?_
  | with_reducible refine' rd_and ?_
  | with_reducible refine' rd_or ?_
  | with_reducible refine' rd_notV ?_
  | with_reducible refine' rd_chain ?_
  | with_reducible refine' rd_ret ?_
  | with_reducible refine' rd_drop ?_
  | with_reducible refine' rd_next' ?_
  | with_reducible refine' rd_lst ?_
  | with_reducible refine' rd_tup ?_
  | with_reducible refine' rd_lc ?_
  | with_reducible refine' rd_rng1 ?_
  | with_reducible refine' rd_istr ?_
  | with_reducible refine' rd_ilst ?_
  | with_reducible refine' rd_ienum ?_
  | with_reducible refine' rd_bm0 ?_
  | with_reducible refine' rd_bm ?_
  | with_reducible refine' rd_m1 ?_
  | with_reducible refine' rd_sl ?_
  | with_reducible refine' rd_po0 ?_
  | with_reducible refine' rd_po1 ?_
  | with_reducible refine' rd_in ?_
  | with_reducible refine' rd_sub ?_
  | with_reducible refine' rd_ifE ?_
  | with_reducible refine' rd_un ?_
  | with_reducible refine' rd_U ?_
  | with_reducible refine' rd_brk ?_
  | with_reducible refine' rd_cont ?_
  | with_reducible refine' rd_yes ?_
  | with_reducible refine' rd_T ?_
  | with_reducible refine' rd_F ?_
  | with_reducible refine' rd_nT ?_
  | with_reducible refine' rd_nF ?_
  | with_reducible refine' rd_dni ?_
  | with_reducible refine' rd_di ?_
  | with_reducible refine' rd_dget ?_
  | with_reducible refine' rd_dget1 ?_
  | with_reducible refine' rd_dget2 ?_
  | with_reducible refine' rd_dget2N ?_
  | with_reducible refine' rd_dpop1 ?_
  | with_reducible refine' rd_ddel ?_
  | with_reducible refine' rd_mkN ?_
  | with_reducible refine' rd_mkV ?_
  | with_reducible refine' rd_dput ?_
  | with_reducible refine' rd_dnew ?_
  | with_reducible refine' rd_ikeys ?_
  | with_reducible refine' rd_gn ?_
  | with_reducible refine' rd_for ?_
  | with_reducible refine' rd_make ?_
  | with_reducible refine' rd_meth ?_
  | with_reducible refine' rd_fld ?_
  | with_reducible refine' rd_sfld ?_
  | with_reducible refine' rd_dc ?_
  | with_reducible refine' rd_items ?_
  | with_reducible refine' rd_sadd ?_
  | with_reducible refine' rd_ivals ?_
  | with_reducible refine' rd_callS ?_
  | with_reducible refine' rd_makeS ?_
  | with_reducible refine' rd_methS ?_
  | with_reducible refine' rd_fldH ?_
  | with_reducible refine' rd_mkO ?_)
local macro_rules | `(tactic| walk_at "sub") => `(tactic| repeat' (first | exact List.nil_sublist _ | exact List.Sublist.refl _ | apply List.Sublist.cons₂ | apply List.Sublist.cons))
local macro_rules | `(tactic| walk_at "rd") => `(tactic| repeat walk_at "rd1")

section
variable {P : Program} {w : World} {K : PySem.W.Frag} {mg : Str → Option Value} {base : Heap}
def spCheck : Sp := fun vs H Q _ => ∃ z : Str, vs = [.str z] ∧ nameOk z = true ∧ ∀ H', Kp [] H H' → Q .non H'
structure CPlan (P : Program) (w : World) (K : PySem.W.Frag) (mg : Str → Option Value) (base : Heap) : Prop where
  check_name : Cl P w K mg base 2 "check_name" spCheck
def spInit (C : Addr) : Sp := fun vs H Q _ => ∃ (pl a dx : Addr) (te : List (Addr × (Str × Option Str))), vs = [.ref pl, .ref a] ∧ H pl = some (.ins C dx []) ∧ H a = some (.lst (te.map fun x => V.ref x.1)) ∧ (∀ x ∈ te.map tP, H x.1 = some x.2) ∧ Good (te.map (·.2)) ∧
  ∀ H' d lv, lv.Perm (te.map (·.2)) → sortedS (lv.map (·.1)) = true → H d = none → Kp [pl] H H' → H' pl = some (.ins C dx [("_leads", .ref d)]) → H' d = some (.dK (dko lv)) → Q .non H'
theorem ok_Plan___init__ {f : Addr} {fd : FuncData} (F : Fun K "__init__" "Plan.__init__" sPlan___init__ f fd) (B : Blt mg) (C : CPlan P w K mg base) {Cp : Addr} (T : PlanC K Cp) : FnOk P w K mg base CX0 3 f fd PPlan___init__ (spInit Cp) := by
  refine F.ok scPlan___init__ (fun vs H Q E h => by obtain ⟨pl, a, dx, te, rfl, _⟩ := h; rfl) (fun cdv A outer s0 H vs Q E hr h => ?_)
  obtain ⟨pl, a, dx, te, rfl, hpl, ha, hte, hg, q⟩ := h
  refine ⟨_, pss_cons (ps_set (i := 2) scPlan___init__.nd rfl (Or.inr rfl) pe_dnewK)
  (pss_cons (ps_set (i := 3) scPlan___init__.nd rfl (Or.inl rfl) (pe_callTy0 cr_set0K (by rfl) B.set (by decide +kernel)))
  (pss_cons (ps_for PassesOwn.never rfl (pi_list (pv 1)) (pg_tup rfl (pgs_cons (pg_name (i := 4) scPlan___init__.nd rfl (Or.inl rfl)) (pgs_cons (pg_name (i := 5) scPlan___init__.nd rfl (Or.inl rfl)) pgs_nil)))
   (pss_cons (ps_expr (pe_cl C.check_name hr (by omega) (by rfl) (pa_cons (pv 4) pa_nil)))
  (Evl.pss_cut (ps_if (pt_cmpR op_notN (pv 5) pe_non (nomark _)) (pss_one (ps_expr (pe_cl C.check_name hr (by omega) (by rfl) (pa_cons (pv 5) pa_nil))))
   (pss_nil))
  (pss_cons (ps_if (pt_cmp (pc_din (hu_of hr) (pv 4) (pv 2))) (pss_one ps_never)
   (pss_nil))
  (pss_cons (ps_if (pt_cmpR or_inO (pv 5) (pv 3) (by rfl)) (pss_one ps_never)
   (pss_nil))
  (pss_cons (ps_dput (hu_of hr) (pv 2) (pv 4) (pv 5) rfl)
  (pss_one (ps_if (pt_cmpR op_notN (pv 5) pe_non (nomark _)) (pss_one (ps_expr (pe_saddK (pv 3) (pa_cons (pv 5) pa_nil))))
   (pss_nil)))))))))
  (pss_one (ps_fld (pv 0) (pe_dc (own := [("old", 4)]) rfl scPlan___init__.nd (pi_list (pe_callB (call_sortedD rfl) (by rfl) B.sorted (by decide +kernel) (pa_cons (pv 2) pa_nil))) (blkOk_by (N := NPlan___init__) (sc := defScope sPlan___init__) (by decide +kernel)) (fun _ _ _ _ _ => (pg_name (i := 4) scPlan___init__.nd rfl (Or.inl rfl))) (fun _ _ _ _ _ => pts_nil) (fun _ _ _ _ _ => (pv 4)) (fun _ _ _ _ _ => (pe_dget (hu_of hr) (pv 2) (pv 4) (fun _ _ => rfl)))) rfl)))), ?_⟩
  have A := At.one hpl
  walk_at "rd"
  refine fun d hd => A.u1 hd fun H1 A1 => ?_
  walk_at "rd"
  refine ⟨rfl, fun p hp => A1.u1 hp fun H2 A2 => ?_⟩
  have nea : a ∉ [pl] := fun hn => by rw [List.mem_singleton] at hn; subst hn; rw [hpl] at ha; cases ha
  have tup : ∀ {H'} {i : Nat} (hi : i < te.length), Kp [pl] H H' → H' te[i].1 = some (.tup [.str te[i].2.1, ov te[i].2.2]) := fun {H' i} hi k => by
    have h := hte _ (List.mem_map_of_mem (f := tP) (List.getElem_mem hi))
    refine k _ _ h fun hn => ?_
    rw [List.mem_singleton] at hn
    have h : H te[i].1 = some (.tup [.str te[i].2.1, ov te[i].2.2]) := h
    rw [hn, hpl] at h
    cases h
  walk_at "rd"
  refine ⟨a, rfl, ⟨_, .inl (.inl (A2.base _ _ ha nea))⟩, ?_⟩
  refine forI (walk_list (xs := te.map fun x => V.ref x.1)) (fun i σ H' => ∃ (y4 y5 : Option V) (S : Key → Bool) (n : Nat), σ = [some (.ref pl), some (.ref a), some (.ref d), some (.ref p), y4, y5] ∧ (∀ z, S (.inr z) = decide (z ∈ ((te.map (·.2)).take i).filterMap (·.2))) ∧ n ≤ i ∧
      At [pl] H H' [(pl, .ins Cp dx []), (d, .dK (dko ((te.map (·.2)).take i))), (p, SetK P w p S n)] [])
    ⟨none, none, _, 0, rfl, by intro z; rfl, Nat.le_refl _, A2⟩ (fun i σ H' _ ⟨_, _, _, _, _, _, _, A⟩ => .inl (.inl (A.base _ _ ha nea))) ?_ ?_
  · rintro i x σ H3 H3' hi ⟨y4, y5, S, n, rfl, hS, hn, A3⟩ ⟨rfl, hx⟩
    have hi' : i < te.length := by rw [List.length_map] at hi; exact hi
    have ex : x = .ref te[i].1 := by
      rw [List.getElem?_map, List.getElem?_eq_getElem hi'] at hx
      exact (Option.some.inj hx).symm
    subst ex
    have hz : nameOk te[i].2.1 = true := hg.old _ (List.mem_map_of_mem (f := fun x : Addr × (Str × Option Str) => x.2) (List.getElem_mem hi'))
    have hnew : ∀ z, te[i].2.2 = some z → nameOk z = true := hg.new _ (List.mem_map_of_mem (f := fun x : Addr × (Str × Option Str) => x.2) (List.getElem_mem hi'))
    have hi2 : i < (te.map (·.2)).length := by rw [List.length_map]; exact hi'
    have hat : (te.map (·.2))[i]? = some te[i].2 := by rw [List.getElem?_map, List.getElem?_eq_getElem hi']; rfl
    have htk : (te.map (·.2)).take (i + 1) = (te.map (·.2)).take i ++ [te[i].2] := by rw [List.take_add_one, hat]; rfl
    have hsplit : te.map (·.2) = (te.map (·.2)).take i ++ (te[i].2 :: (te.map (·.2)).drop (i + 1)) := by
      rw [show te[i].2 = (te.map (·.2))[i] from (List.getElem_map _).symm, List.getElem_cons_drop hi2, List.take_append_drop]
    have hfresh : te[i].2.1 ∉ ((te.map (·.2)).take i).map (·.1) := by
      have nd := hg.oldsNd
      rw [hsplit, List.map_append, List.nodup_append] at nd
      exact fun hm => nd.2.2 _ hm te[i].2.1 (by rw [List.map_cons]; exact List.mem_cons_self) rfl
    have hfreshN : ∀ z, te[i].2.2 = some z → z ∉ ((te.map (·.2)).take i).filterMap (·.2) := fun z e hm => by
      have nd := hg.newsNd
      rw [hsplit, List.filterMap_append, List.nodup_append] at nd
      exact nd.2.2 _ hm z (by rw [List.filterMap_cons_some e]; exact List.mem_cons_self) rfl
    have tu := tup hi' A3.keep
    generalize hold : te[i].2.1 = old at *
    generalize hnw : te[i].2.2 = new at *
    have hpr : te[i].2 = (old, new) := by rw [← hold, ← hnw]
    refine ⟨te[i].1, _, rfl, .inl (.inl tu), rfl, _, _, rfl, _, _, rfl, rfl, ?_⟩
    walk_at "rd"
    refine ⟨_, rfl, hz, fun H4 k4 => ?_⟩
    have A4 := A3.c0 k4
    walk_at "rd"
    refine rd_cut (fun σ' H' => σ' = [some (.ref pl), some (.ref a), some (.ref d), some (.ref p), some (.str old), some (ov new)] ∧ At [pl] H H' [(pl, .ins Cp dx []), (d, .dK (dko ((te.map (·.2)).take i))), (p, SetK P w p S n)] []) ?_ ?_
    · walk_at "rd"
      refine ⟨rfl, rd_bl ?_⟩
      cases new with
      | none =>
        refine rd_iteN (fun h => absurd rfl h) (fun _ => ?_)
        walk_at "rd"
        exact ⟨rfl, A4⟩
      | some z =>
        refine rd_iteN (fun _ => ?_) (fun h => by cases h)
        walk_at "rd"
        refine ⟨_, rfl, hnew z rfl, fun H5 k5 => ?_⟩
        exact ⟨rfl, A4.c0 k5⟩
    rintro σ H5 ⟨rfl, A5⟩
    walk_at "rd"
    refine ⟨_, _, rfl, DGet.k (k := Sum.inr old) (A5.get 1 rfl), rd_bl ?_⟩
    rw [valV_dko_some, decide_eq_false hfresh]
    walk_at "rd"
    have hin : inO S new = false := by
      cases new with
      | none => rfl
      | some z => show S (.inr z) = false; rw [hS, decide_eq_false (hfreshN z rfl)]
    refine ⟨new, _, S, n, rfl, rfl, A5.get 2 rfl, rd_bl ?_⟩
    rw [hin]
    walk_at "rd"
    refine ⟨_, _, rfl, DPut.k (k := Sum.inr old) (A5.get 1 rfl) (by rw [dko_len, List.length_take]; have := hg.len; rw [List.length_map] at *; exact szn' (by omega)), ?_⟩
    rw [putK_dko new hfresh, ← hpr, ← htk]
    refine A5.s1 1 rfl fun H6 A6 => ?_
    walk_at "rd"
    refine ⟨rfl, rd_bl ?_⟩
    cases new with
    | none =>
      refine rd_iteN (fun h => absurd rfl h) (fun _ => ?_)
      walk_at "rd"
      refine ⟨_, _, S, n, rfl, ?_, by omega, A6⟩
      intro z
      rw [hS, htk, List.filterMap_append, hpr, show List.filterMap (fun x : Str × Option Str => x.2) [(old, none)] = [] from rfl, List.append_nil]
    | some z =>
      refine rd_iteN (fun _ => ?_) (fun h => by cases h)
      walk_at "rd"
      refine ⟨⟨_, S, n, rfl, A6.get 2 rfl⟩, ?_⟩
      walk_at "rd"
      refine ⟨_, .inr z, S, n, rfl, rfl, A6.get 2 rfl, ?_, ?_⟩
      · have := hg.len; rw [List.length_map] at this; show n + 1 < scanBound; unfold scanBound; omega
      have A7 := A6.set 2 rfl (SetK P w p (fun j => S j || decide (j = .inr z)) (if S (.inr z) = true then n else n + 1))
      refine ⟨_, _, _, _, rfl, ?_, ?_, A7⟩
      · intro y
        rw [hS, htk, List.filterMap_append, hpr, show List.filterMap (fun x : Str × Option Str => x.2) [(old, some z)] = [z] from rfl, ← Bool.decide_or]
        refine decide_eq_decide.mpr ?_
        rw [List.mem_append, List.mem_singleton]
        exact ⟨fun h => h.imp_right Sum.inr.inj, fun h => h.imp_right (congrArg _)⟩
      · split <;> omega
  · rintro σ H3 ⟨y4, y5, S, n, rfl, hS, hn, A3⟩
    rw [List.length_map, ← List.length_map (f := fun x : Addr × (Str × Option Str) => x.2), List.take_length] at A3
    walk_at "rd"
    refine ⟨d, _, (te.map (·.2)).map (·.1), rfl, .inl (A3.get 1 rfl), dko_keys _, by rw [List.length_map]; exact hg.len, fun ys p2 hys hso hp2 => ?_⟩
    have A4 := A3.snoc hp2 (.lst (ys.map V.str))
    revert A4
    generalize upd H3 p2 (.lst (ys.map V.str)) = H4
    intro A4
    refine ⟨p2, rfl, ⟨_, A4.lst 3 rfl⟩, fun D hD => ?_⟩
    have nd := hg.oldsNd
    have hperm := sorted_perm nd hys
    have ynd : ys.Nodup := hys.nodup_iff.mpr nd
    refine dc_it (walk_list (xs := ys.map V.str)) (fun i H' => At [pl] H H' [(pl, .ins Cp dx []), (d, .dK (dko (te.map (·.2)))), (p, SetK P w p S n), (p2, .lst (ys.map V.str)), (D, .dK (dko ((ys.take i).map fun z => (z, toOf (te.map (·.2)) z))))] [])
      (A4.snoc hD _) (fun i H' _ A => A.lst 3 rfl) ?_ ?_
    · rintro i x H5 H5' hi A5 ⟨rfl, hx⟩
      have hi' : i < ys.length := by rw [List.length_map] at hi; exact hi
      have ex : x = .str ys[i] := by
        rw [List.getElem?_map, List.getElem?_eq_getElem hi'] at hx
        exact (Option.some.inj hx).symm
      subst ex
      have htk : ys.take (i + 1) = ys.take i ++ [ys[i]] := by rw [List.take_add_one, List.getElem?_eq_getElem hi']; rfl
      have hsplit : ys = ys.take i ++ (ys[i] :: ys.drop (i + 1)) := by rw [List.getElem_cons_drop hi', List.take_append_drop]
      have hfr : ys[i] ∉ ((ys.take i).map fun z => (z, toOf (te.map (·.2)) z)).map (·.1) := by
        rw [List.map_map, show ((fun x : Str × Option Str => x.1) ∘ fun z => (z, toOf (te.map (·.2)) z)) = id from rfl, List.map_id]
        have h := ynd
        rw [hsplit, List.nodup_append] at h
        exact fun hm => h.2.2 _ hm ys[i] List.mem_cons_self rfl
      have hm : ys[i] ∈ (te.map (·.2)).map (·.1) := hys.mem_iff.mp (List.getElem_mem hi')
      obtain ⟨e, he, ee⟩ := List.mem_map.mp hm
      have hv : valV (dko (te.map (·.2))) (Sum.inr ys[i]) = some (ov (toOf (te.map (·.2)) ys[i])) := by
        rw [valV_dko, ← ee, find_mem nd he, toOf_mem nd he]; rfl
      refine ⟨rfl, ?_⟩
      walk_at "rd"
      refine ⟨d, ov (toOf (te.map (·.2)) ys[i]), rfl, ?_, ?_⟩
      · rw [← hv]; exact DGet.k (k := Sum.inr ys[i]) (A5.get 1 rfl)
      refine ⟨_, .inr ys[i], rfl, A5.get 4 rfl, ?_, ?_⟩
      · rw [dko_len, List.length_map, List.length_take]; have := hys.length_eq; rw [List.length_map] at this; have := hg.len; exact szn' (by omega)
      rw [putK_dko _ hfr]
      rw [htk, List.map_append]
      exact A5.set 4 rfl _
    · intro H5 A5
      rw [List.length_map, List.take_length] at A5
      walk_at "rd"
      refine ⟨pl, Cp, dx, [], rfl, A5.get 0 rfl, T.cl, T.nl, by decide, ?_⟩
      have A6 := A5.set 0 rfl (.ins Cp dx [("_leads", .ref D)])
      refine q _ D _ hperm ?_ (A6.new0 4 rfl (by rw [List.mem_singleton]; exact A6.ne 4 0 rfl rfl (by decide))) A6.keep (A6.get 0 rfl) (A6.get 4 rfl)
      rw [List.map_map, show ((fun x : Str × Option Str => x.1) ∘ fun z => (z, toOf (te.map (·.2)) z)) = id from rfl, List.map_id]
      exact hso
end
end Nn

namespace Nn
open PySem PySem.Spec PyProof.Rows L2
local macro_rules | `(tactic| walk_at "rd1") => `(tactic| first
  | with_reducible refine' rd_c ?_
  | ((with_reducible refine' rd_var ?h ?_); (case h => rfl))
  | with_reducible refine' rd_op ?_
  | with_reducible refine' rd_I0 ?_
  | with_reducible refine' rd_seq ?_
  | ((with_reducible refine' rd_mod ?h ?_); (case h => decide))
  | ((with_reducible refine' rd_fdiv ?h ?_); (case h => exact ⟨by decide, by decide⟩))
  | ((with_reducible refine' rd_pow ?h ?_); (case h => exact ⟨by decide, by decide, by decide⟩))
  | ((with_reducible refine' rd_mul ?h ?_); (case h => first | exact Or.inl (by decide) | exact Or.inr (by decide)))
  | with_reducible refine' rd_set ?_
  | with_reducible refine' rd_asg ?_
  | with_reducible refine' rd_cons ?_
  | with_reducible refine' rd_nil ?_
  | with_reducible refine' rd_call ?_
  | with_reducible refine' rd_cb ?_
  | with_reducible refine' rd_if ?_
  | with_reducible refine' rd_test ?_
  | with_reducible refine' rd_B ?_
  | with_reducible refine' rd_bl ?_
  | ((with_reducible refine' rd_eq ?h ?_); (case h => rfl))
  | ((with_reducible refine' rd_ne ?h ?_); (case h => rfl))
  | with_reducible refine' rd_not ?_
  | with_reducible refine' rd_and ?_
  | with_reducible refine' rd_or ?_
  | with_reducible refine' rd_notV ?_
  | with_reducible refine' rd_chain ?_
  | with_reducible refine' rd_ret ?_
  | with_reducible refine' rd_drop ?_
  | with_reducible refine' rd_next' ?_
  | with_reducible refine' rd_lst ?_
  | with_reducible refine' rd_tup ?_
  | with_reducible refine' rd_lc ?_
  | with_reducible refine' rd_rng1 ?_
  | with_reducible refine' rd_istr ?_
  | with_reducible refine' rd_ilst ?_
  | with_reducible refine' rd_ienum ?_
  | with_reducible refine' rd_bm0 ?_
  | with_reducible refine' rd_bm ?_
  | with_reducible refine' rd_m1 ?_
  | with_reducible refine' rd_sl ?_
  | with_reducible refine' rd_po0 ?_
  | with_reducible refine' rd_po1 ?_
  | with_reducible refine' rd_in ?_
  | with_reducible refine' rd_sub ?_
  | with_reducible refine' rd_ifE ?_
  | with_reducible refine' rd_un ?_
  | with_reducible refine' rd_U ?_
  | with_reducible refine' rd_brk ?_
  | with_reducible refine' rd_cont ?_
  | with_reducible refine' rd_yes ?_
  | with_reducible refine' rd_T ?_
  | with_reducible refine' rd_F ?_
  | with_reducible refine' rd_nT ?_
  | with_reducible refine' rd_nF ?_
  | with_reducible refine' rd_dni ?_
  | with_reducible refine' rd_di ?_
  | with_reducible refine' rd_dget ?_
  | with_reducible refine' rd_dget1 ?_
  | with_reducible refine' rd_dget2 ?_
  | with_reducible refine' rd_dget2N ?_
  | with_reducible refine' rd_dpop1 ?_
  | with_reducible refine' rd_ddel ?_
  | with_reducible refine' rd_mkN ?_
  | with_reducible refine' rd_mkV ?_
  | with_reducible refine' rd_dput ?_
  | with_reducible refine' rd_dnew ?_
  | with_reducible refine' rd_ikeys ?_
  | with_reducible refine' rd_gn ?_
  | with_reducible refine' rd_for ?_
  | with_reducible refine' rd_make ?_
  | with_reducible refine' rd_meth ?_
  | with_reducible refine' rd_fld ?_
  | with_reducible refine' rd_sfld ?_
  | with_reducible refine' rd_dc ?_
  | with_reducible refine' rd_items ?_
  | with_reducible refine' rd_sadd ?_
  | with_reducible refine' rd_ivals ?_
  | with_reducible refine' rd_callS ?_
  | with_reducible refine' rd_makeS ?_
  | with_reducible refine' rd_methS ?_
  | with_reducible refine' rd_fldH ?_
  | with_reducible refine' rd_mkO ?_)
local macro_rules | `(tactic| walk_at "sub") => `(tactic| repeat' (first | exact List.nil_sublist _ | exact List.Sublist.refl _ | apply List.Sublist.cons₂ | apply List.Sublist.cons))
local macro_rules | `(tactic| walk_at "rd") => `(tactic| repeat walk_at "rd1")

section
variable {P : Program} {w : World} {K : PySem.W.Frag} {mg : Str → Option Value} {base : Heap}
/-- a plan stands at pl -/
def PlanAt (C : Addr) (H : Hp) (pl : Addr) (lv : List (Str × Option Str)) : Prop := ∃ dx d, H pl = some (.ins C dx [("_leads", .ref d)]) ∧ H d = some (.dK (dko lv))
theorem zip_fst {α β : Type} : ∀ {a : List α} {b : List β}, a.length = b.length → (a.zip b).map (·.1) = a
  | [], [], _ => rfl
  | x :: a, y :: b, h => by rw [List.zip_cons_cons, List.map_cons, zip_fst (Nat.succ.inj h)]
  | [], _ :: _, h => by cases h
  | _ :: _, [], h => by cases h
theorem zip_snd {α β : Type} : ∀ {a : List α} {b : List β}, a.length = b.length → (a.zip b).map (·.2) = b
  | [], [], _ => rfl
  | x :: a, y :: b, h => by rw [List.zip_cons_cons, List.map_cons, zip_snd (Nat.succ.inj h)]
  | [], _ :: _, h => by cases h
  | _ :: _, [], h => by cases h
theorem paired_zip {β γ δ : Type} {R : β → γ → Prop} {g : δ → γ} : ∀ {a : List β} {b : List δ}, Paired R a (b.map g) → a.length = b.length ∧ ∀ x ∈ a.zip b, R x.1 (g x.2)
  | [], [], _ => ⟨rfl, by simp⟩
  | x :: a, y :: b, h => by
    cases h with
    | cons h t =>
      obtain ⟨e, f⟩ := paired_zip t
      refine ⟨by rw [List.length_cons, List.length_cons, e], fun z hz => ?_⟩
      rw [List.zip_cons_cons] at hz
      rcases List.mem_cons.mp hz with rfl | hz
      · exact h
      · exact f z hz
  | [], _ :: _, h => by cases h
  | _ :: _, [], h => by cases h
def spPairsM (C : Addr) : Sp := fun vs H Q _ => ∃ (pl : Addr) (lv : List (Str × Option Str)), vs = [.ref pl] ∧ PlanAt C H pl lv ∧
  ∀ H' p (te : List (Addr × (Str × Option Str))), te.map (·.2) = lv → H p = none → H' p = some (.lst (te.map fun x => V.ref x.1)) → (∀ x ∈ te.map tP, H x.1 = none ∧ H' x.1 = some x.2) → Kp [] H H' → Q (.ref p) H'
theorem ok_Plan_pairs {f : Addr} {fd : FuncData} (F : Fun K "pairs" "Plan.pairs" sPlan_pairs f fd) (B : Blt mg) {Cp : Addr} (T : PlanC K Cp) : FnOk P w K mg base CX0 1 f fd PPlan_pairs (spPairsM Cp) := by
  refine F.ok scPlan_pairs (fun vs H Q E h => by obtain ⟨pl, lv, rfl, _⟩ := h; rfl) (fun cdv A outer s0 H vs Q E hr h => ?_)
  obtain ⟨pl, lv, rfl, ⟨dx, d, hpl, hd⟩, q⟩ := h
  refine ⟨_, pss_one (ps_ret (LiI.pe_listItems rfl (pe_fld (pv 0) rfl) (by rfl) B.list (by decide +kernel))), ?_⟩
  walk_at "rd"
  refine ⟨pl, Cp, dx, _, _, rfl, hpl, T.cl, T.nl, rfl, ?_⟩
  refine ⟨d, dko lv, rfl, hd, fun H' p ts k hp hts hpt hp' hpa => ?_⟩
  have hpa : Paired (fun (t : Addr) (q : Key × V) => H' t = some (.tup [kV q.1, q.2])) ts (lv.map fun e => ((Sum.inr e.1 : Key), ov e.2)) := by
    rw [show (lv.map fun e => ((Sum.inr e.1 : Key), ov e.2)) = dko lv by unfold dko dk; rw [List.map_map]; rfl]
    exact hpa
  obtain ⟨hl, hz⟩ := paired_zip hpa
  refine q H' p (ts.zip lv) (zip_snd hl) hp ?_ ?_ (Kp.of k)
  · rw [hp', show ((ts.zip lv).map fun x => V.ref x.1) = ((ts.zip lv).map (·.1)).map V.ref by rw [List.map_map]; rfl, zip_fst hl]
  · intro x hx
    obtain ⟨y, hy, rfl⟩ := List.mem_map.mp hx
    refine ⟨hts _ ?_, hz y hy⟩
    exact (List.of_mem_zip hy).1
def spOldsM (C : Addr) : Sp := fun vs H Q _ => ∃ (pl : Addr) (lv : List (Str × Option Str)), vs = [.ref pl] ∧ PlanAt C H pl lv ∧
  ∀ H' p, H p = none → H' p = some (.lst ((lv.map (·.1)).map V.str)) → Kp [] H H' → Q (.ref p) H'
theorem ok_Plan_olds {f : Addr} {fd : FuncData} (F : Fun K "olds" "Plan.olds" sPlan_olds f fd) (B : Blt mg) {Cp : Addr} (T : PlanC K Cp) : FnOk P w K mg base CX0 1 f fd PPlan_olds (spOldsM Cp) := by
  refine F.ok scPlan_olds (fun vs H Q E h => by obtain ⟨pl, lv, rfl, _⟩ := h; rfl) (fun cdv A outer s0 H vs Q E hr h => ?_)
  obtain ⟨pl, lv, rfl, ⟨dx, d, hpl, hd⟩, q⟩ := h
  refine ⟨_, pss_one (ps_ret (pe_callTy (call_listD rfl) (by rfl) B.list (by decide +kernel) (pa_cons (pe_fld (pv 0) rfl) pa_nil))), ?_⟩
  walk_at "rd"
  refine ⟨pl, Cp, dx, _, _, rfl, hpl, T.cl, T.nl, rfl, ?_⟩
  walk_at "rd"
  refine ⟨d, dko lv, rfl, .inl hd, fun p hp => ?_⟩
  have A := (At.nil H).snoc hp (.lst ((dko lv).map fun kv => kV kv.1))
  refine q _ p hp ?_ A.keep
  rw [upd_same]
  unfold dko dk
  rw [List.map_map, List.map_map, List.map_map]
  rfl
def spNewsM (C : Addr) : Sp := fun vs H Q _ => ∃ (pl : Addr) (lv : List (Str × Option Str)), vs = [.ref pl] ∧ PlanAt C H pl lv ∧ lv.length < 64 ∧
  ∀ H' p (ys : List Str), ys.Perm (lv.filterMap (·.2)) → sortedS ys = true → H p = none → H' p = some (.lst (ys.map V.str)) → Kp [] H H' → Q (.ref p) H'
theorem ok_Plan_news {f : Addr} {fd : FuncData} (F : Fun K "news" "Plan.news" sPlan_news f fd) (B : Blt mg) {Cp : Addr} (T : PlanC K Cp) : FnOk P w K mg base CX0 1 f fd PPlan_news (spNewsM Cp) := by
  refine F.ok scPlan_news (fun vs H Q E h => by obtain ⟨pl, lv, rfl, _⟩ := h; rfl) (fun cdv A outer s0 H vs Q E hr h => ?_)
  obtain ⟨pl, lv, rfl, ⟨dx, d, hpl, hd⟩, hlen, q⟩ := h
  refine ⟨_, pss_one (ps_ret (pe_callB cr_sortedS (by rfl) B.sorted (by decide +kernel) (pa_cons (pe_lock (pe_lc (own := [("new", 1)]) rfl scPlan_news.nd (pi_values (pe_fld (pv 0) rfl)) (blkOk_by (N := NPlan_news) (sc := defScope sPlan_news) (by decide +kernel)) (fun _ _ _ _ _ => (pg_name (i := 1) scPlan_news.nd rfl (Or.inl rfl))) (fun _ _ _ _ _ => pts_one (pt_cmpR op_notN (pv 1) pe_non (nomark _))) (fun _ _ _ _ _ => (pv 1)))) pa_nil))), ?_⟩
  have A := At.one hd
  walk_at "rd"
  refine rd_lockE hd trivial fun od => ?_
  have A1 := A.set 0 rfl (.frz od (.dK (dko lv)))
  walk_at "rd"
  have hne : pl ≠ d := ne_of hpl hd (by intro e; cases e)
  refine ⟨pl, Cp, dx, _, _, rfl, A1.base _ _ hpl (by rw [List.mem_singleton]; exact hne), T.cl, T.nl, rfl, ?_⟩
  refine ⟨d, od, dko lv, rfl, A1.get 0 rfl, fun D hD => ?_⟩
  refine lc_it walk_values (fun i H' => At [d] H H' [(d, .frz od (.dK (dko lv))), (D, .lst (((lv.take i).filterMap (·.2)).map V.str))] []) (A1.snoc hD _) (fun _ _ _ A => A.get 0 rfl) ?_ ?_
  · rintro i x H2 H2' hi A2 ⟨rfl, k, hk⟩
    have hi' : i < lv.length := by rw [dko_len] at hi; exact hi
    have ex : x = ov lv[i].2 := by
      unfold dko dk at hk
      rw [List.map_map, List.getElem?_map, List.getElem?_eq_getElem hi'] at hk
      exact (Prod.mk.inj (Option.some.inj hk)).2.symm
    subst ex
    have htk : lv.take (i + 1) = lv.take i ++ [lv[i]] := by rw [List.take_add_one, List.getElem?_eq_getElem hi']; rfl
    refine ⟨rfl, ?_⟩
    walk_at "rd"
    refine ⟨rfl, rd_bl ?_⟩
    cases ho : lv[i].2 with
    | none =>
      refine rd_iteN (fun h => absurd rfl h) (fun _ => ?_)
      rw [htk, List.filterMap_append, show List.filterMap (fun x : Str × Option Str => x.2) [lv[i]] = [] by rw [List.filterMap_cons_none ho]; rfl, List.append_nil]
      exact A2
    | some z =>
      refine rd_iteN (fun _ => ?_) (fun h => by cases h)
      walk_at "rd"
      have A3 := A2.set 1 rfl (.lst (((lv.take i).filterMap (·.2)).map V.str ++ [.str z]))
      refine ⟨_, A2.get 1 rfl, ?_, ?_⟩
      · rw [List.length_map]; have := List.length_filterMap_le (fun x : Str × Option Str => x.2) (lv.take i); rw [List.length_take] at this; exact szn' (by omega)
      · rw [htk, List.filterMap_append, show List.filterMap (fun x : Str × Option Str => x.2) [lv[i]] = [z] by rw [List.filterMap_cons_some ho]; rfl, List.map_append]
        exact A3
  · intro H2 A2
    rw [dko_len, List.take_length] at A2
    refine ⟨A2.get 0 rfl, ?_⟩
    have A3 := A2.set 0 rfl (.dK (dko lv))
    revert A3
    generalize upd H2 d (.dK (dko lv)) = H3
    intro A3
    walk_at "rd"
    refine ⟨D, lv.filterMap (·.2), rfl, A3.lst 1 rfl, ?_, fun ys p hys hso hp => ?_⟩
    · have := List.length_filterMap_le (fun x : Str × Option Str => x.2) lv; omega
    have A4 := A3.snoc hp (.lst (ys.map V.str))
    refine q _ p ys hys hso (A4.new0 2 rfl (by rw [List.mem_singleton]; exact A4.ne 2 0 rfl rfl (by decide))) upd_same fun b o hb _ => ?_
    by_cases e : b = d
    · subst e
      rw [hd] at hb
      cases hb
      exact A4.get 0 rfl
    · exact A4.base b o hb (by rw [List.mem_singleton]; exact e)
/-- where a plan leads a name -/
def toV (lv : List (Str × Option Str)) (z : Str) : V := match lv.find? fun e => decide (e.1 = z) with
  | none => .str z
  | some e => ov e.2
def spToM (C : Addr) : Sp := fun vs H Q _ => ∃ (pl : Addr) (lv : List (Str × Option Str)) (z : Str), vs = [.ref pl, .str z] ∧ PlanAt C H pl lv ∧ ∀ H', Kp [] H H' → Q (toV lv z) H'
theorem ok_Plan_to {f : Addr} {fd : FuncData} (F : Fun K "to" "Plan.to" sPlan_to f fd) (B : Blt mg) {Cp : Addr} (T : PlanC K Cp) : FnOk P w K mg base CX0 1 f fd PPlan_to (spToM Cp) := by
  refine F.ok scPlan_to (fun vs H Q E h => by obtain ⟨pl, lv, z, rfl, _⟩ := h; rfl) (fun cdv A outer s0 H vs Q E hr h => ?_)
  obtain ⟨pl, lv, z, rfl, ⟨dx, d, hpl, hd⟩, q⟩ := h
  refine ⟨_, pss_one (ps_ret (pe_dget2 (hu_of hr) (pe_fld (pv 0) rfl) (pv 1) (pv 1) ⟨by rfl, by rfl, by rfl, by rfl⟩)), ?_⟩
  walk_at "rd"
  refine ⟨pl, Cp, dx, _, _, rfl, hpl, T.cl, T.nl, rfl, ?_⟩
  refine ⟨d, rfl, .inl ⟨_, .inl hd⟩, ?_⟩
  walk_at "rd"
  refine ⟨_, DGet.k (k := Sum.inr z) hd, ?_⟩
  have e : (valV (dko lv) (Sum.inr z)).getD (.str z) = toV lv z := by
    rw [valV_dko]
    unfold toV
    cases lv.find? (fun e => decide (e.1 = z)) <;> rfl
  rw [e]
  exact q H (Kp.refl H)
end
end Nn

namespace Nn
open PySem PySem.Spec PyProof.Rows L2
local macro_rules | `(tactic| walk_at "rd1") => `(tactic| first
  | with_reducible refine' rd_c ?_
  | ((with_reducible refine' rd_var ?h ?_); (case h => rfl))
  | with_reducible refine' rd_op ?_
  | with_reducible refine' rd_I0 ?_
  | with_reducible refine' rd_seq ?_
  | ((with_reducible refine' rd_mod ?h ?_); (case h => decide))
  | ((with_reducible refine' rd_fdiv ?h ?_); (case h => exact ⟨by decide, by decide⟩))
  | ((with_reducible refine' rd_pow ?h ?_); (case h => exact ⟨by decide, by decide, by decide⟩))
  | ((with_reducible refine' rd_mul ?h ?_); (case h => first | exact Or.inl (by decide) | exact Or.inr (by decide)))
  | with_reducible refine' rd_set ?_
  | with_reducible refine' rd_asg ?_
  | with_reducible refine' rd_cons ?_
  | with_reducible refine' rd_nil ?_
  | with_reducible refine' rd_call ?_
  | with_reducible refine' rd_cb ?_
  | with_reducible refine' rd_if ?_
  | with_reducible refine' rd_test ?_
  | with_reducible refine' rd_B ?_
  | with_reducible refine' rd_bl ?_
  | ((with_reducible refine' rd_eq ?h ?_); (case h => rfl))
  | ((with_reducible refine' rd_ne ?h ?_); (case h => rfl))
  | with_reducible refine' rd_not ?_
  | with_reducible refine' rd_and ?_
  | with_reducible refine' rd_or ?_
  | with_reducible refine' rd_notV ?_
  | with_reducible refine' rd_chain ?_
  | with_reducible refine' rd_ret ?_
  | with_reducible refine' rd_drop ?_
  | with_reducible refine' rd_next' ?_
  | with_reducible refine' rd_lst ?_
  | with_reducible refine' rd_tup ?_
  | with_reducible refine' rd_lc ?_
  | with_reducible refine' rd_rng1 ?_
  | with_reducible refine' rd_istr ?_
  | with_reducible refine' rd_ilst ?_
  | with_reducible refine' rd_ienum ?_
  | with_reducible refine' rd_bm0 ?_
  | with_reducible refine' rd_bm ?_
  | with_reducible refine' rd_m1 ?_
  | with_reducible refine' rd_sl ?_
  | with_reducible refine' rd_po0 ?_
  | with_reducible refine' rd_po1 ?_
  | with_reducible refine' rd_in ?_
  | with_reducible refine' rd_sub ?_
  | with_reducible refine' rd_ifE ?_
  | with_reducible refine' rd_un ?_
  | with_reducible refine' rd_U ?_
  | with_reducible refine' rd_brk ?_
  | with_reducible refine' rd_cont ?_
  | with_reducible refine' rd_yes ?_
  | with_reducible refine' rd_T ?_
  | with_reducible refine' rd_F ?_
  | with_reducible refine' rd_nT ?_
  | with_reducible refine' rd_nF ?_
  | with_reducible refine' rd_dni ?_
  | with_reducible refine' rd_di ?_
  | with_reducible refine' rd_dget ?_
  | with_reducible refine' rd_dget1 ?_
  | with_reducible refine' rd_dget2 ?_
  | with_reducible refine' rd_dget2N ?_
  | with_reducible refine' rd_dpop1 ?_
  | with_reducible refine' rd_ddel ?_
  | with_reducible refine' rd_mkN ?_
  | with_reducible refine' rd_mkV ?_
  | with_reducible refine' rd_dput ?_
  | with_reducible refine' rd_dnew ?_
  | with_reducible refine' rd_ikeys ?_
  | with_reducible refine' rd_gn ?_
  | with_reducible refine' rd_for ?_
  | with_reducible refine' rd_make ?_
  | with_reducible refine' rd_meth ?_
  | with_reducible refine' rd_fld ?_
  | with_reducible refine' rd_sfld ?_
  | with_reducible refine' rd_dc ?_
  | with_reducible refine' rd_items ?_
  | with_reducible refine' rd_sadd ?_
  | with_reducible refine' rd_ivals ?_
  | with_reducible refine' rd_callS ?_
  | with_reducible refine' rd_makeS ?_
  | with_reducible refine' rd_methS ?_
  | with_reducible refine' rd_fldH ?_
  | with_reducible refine' rd_mkO ?_)
local macro_rules | `(tactic| walk_at "sub") => `(tactic| repeat' (first | exact List.nil_sublist _ | exact List.Sublist.refl _ | apply List.Sublist.cons₂ | apply List.Sublist.cons))
local macro_rules | `(tactic| walk_at "rd") => `(tactic| repeat walk_at "rd1")

section
variable {P : Program} {w : World} {K : PySem.W.Frag} {mg : Str → Option Value} {base : Heap}
/-! ### sorted, by one order alone -/
theorem rising_le : ∀ {l : List Str} {p : Str}, risingS p l = true → ∀ x ∈ l, p.cps.toList ≤ x.cps.toList
  | [], _, _, _, h => by cases h
  | y :: r, p, h, x, hx => by
    have h2 : (!ltCps y.cps.toList p.cps.toList) = true ∧ risingS y r = true := Bool.and_eq_true_iff.mp h
    have h1 : p.cps.toList ≤ y.cps.toList := by
      have := h2.1
      rw [ltCps_eq] at this
      simpa using this
    rcases List.mem_cons.mp hx with e | hx
    · rw [e]; exact h1
    · exact List.le_trans h1 (rising_le h2.2 x hx)
theorem rising_pw : ∀ {l : List Str} {p : Str}, risingS p l = true → (p :: l).Pairwise fun a b => a.cps.toList ≤ b.cps.toList
  | [], _, _ => List.pairwise_singleton _ _
  | y :: r, p, h => List.pairwise_cons.mpr ⟨rising_le h, rising_pw (Bool.and_eq_true_iff.mp h).2⟩
theorem sorted_pw : ∀ {l : List Str}, sortedS l = true → l.Pairwise fun a b => a.cps.toList ≤ b.cps.toList
  | [], _ => .nil
  | _ :: _, h => rising_pw h
theorem str_ext' {a b : Str} (h : a.cps.toList = b.cps.toList) : a = b := by
  cases a; cases b
  exact congrArg Str.mk (Array.toList_inj.mp h)
theorem sorted_eq {a b : List Str} (ha : sortedS a = true) (hb : sortedS b = true) (h : a.Perm b) : a = b :=
  List.Perm.eq_of_pairwise (fun _ _ _ _ h1 h2 => str_ext' (List.le_antisymm h1 h2)) (sorted_pw ha) (sorted_pw hb) h
theorem lv_keys {prs lv : List (Str × Option Str)} (nd : (prs.map (·.1)).Nodup) (h : lv.Perm prs) : lv = (lv.map (·.1)).map fun z => (z, toOf prs z) := by
  rw [List.map_map]
  conv => lhs; rw [← List.map_id lv]
  refine List.map_congr_left fun x hx => ?_
  show x = (x.1, toOf prs x.1)
  rw [toOf_mem nd (h.mem_iff.mp hx)]
theorem lv_eq {prs lv lw : List (Str × Option Str)} (nd : (prs.map (·.1)).Nodup) (h : lv.Perm prs) (h' : lw.Perm prs) (s : sortedS (lv.map (·.1)) = true) (s' : sortedS (lw.map (·.1)) = true) : lv = lw := by
  rw [lv_keys nd h, lv_keys nd h', sorted_eq s s' ((h.trans h'.symm).map _)]
theorem find_perm' {prs lv : List (Str × Option Str)} (nd : (prs.map (·.1)).Nodup) (h : lv.Perm prs) (z : Str) : lv.find? (fun e => decide (e.1 = z)) = prs.find? fun e => decide (e.1 = z) := by
  have nd' : (lv.map (·.1)).Nodup := (h.map _).nodup_iff.mpr nd
  cases e : prs.find? fun e => decide (e.1 = z) with
  | some x =>
    have hx := List.mem_of_find?_eq_some e
    have hz := List.find?_some e
    have hz : x.1 = z := of_decide_eq_true hz
    rw [← hz]
    exact find_mem nd' (h.mem_iff.mpr hx)
  | none =>
    rw [List.find?_eq_none] at e ⊢
    exact fun x hx => e x (h.mem_iff.mp hx)
theorem toV_perm {prs lv : List (Str × Option Str)} (nd : (prs.map (·.1)).Nodup) (h : lv.Perm prs) (z : Str) : toV lv z = toV prs z := by unfold toV; rw [find_perm' nd h]
/-! ### pairs by their old names -/
theorem dko_merge {prs : List (Str × Option Str)} (nd : (prs.map (·.1)).Nodup) : mergeK [] (dko prs) = dko prs := by
  unfold dko
  exact merge_nodup _ [] (by rw [List.nil_append, List.map_map]; exact nd)
theorem dict_pairs {H : Hp} {te : List (Addr × (Str × Option Str))} (h : ∀ x ∈ te.map tP, H x.1 = some x.2) : Paired (fun p kv => SqT K H p [kV kv.1, kv.2]) (te.map (·.1)) (dko (te.map (·.2))) := by
  unfold dko dk
  rw [List.map_map, List.map_map]
  exact paired_map fun x hx => .inl (.inl (h _ (List.mem_map_of_mem (f := tP) hx)))
def spByOlds : Sp := fun vs H Q _ => ∃ (a : Addr) (te : List (Addr × (Str × Option Str))), vs = [.ref a] ∧ H a = some (.lst (te.map fun x => V.ref x.1)) ∧ (∀ x ∈ te.map tP, H x.1 = some x.2) ∧ Good (te.map (·.2)) ∧
  ∀ H' p (te' : List (Addr × (Str × Option Str))), (te'.map (·.2)).Perm (te.map (·.2)) → sortedS ((te'.map (·.2)).map (·.1)) = true → H p = none → H' p = some (.lst (te'.map fun x => V.ref x.1)) → (∀ x ∈ te'.map tP, H x.1 = none ∧ H' x.1 = some x.2) → Kp [] H H' → Q (.ref p) H'
end
end Nn

namespace Nn
open PySem PySem.Spec PyProof.Rows L2
local macro_rules | `(tactic| walk_at "rd1") => `(tactic| first
  | with_reducible refine' rd_c ?_
  | ((with_reducible refine' rd_var ?h ?_); (case h => rfl))
  | with_reducible refine' rd_op ?_
  | with_reducible refine' rd_I0 ?_
  | with_reducible refine' rd_seq ?_
  | ((with_reducible refine' rd_mod ?h ?_); (case h => decide))
  | ((with_reducible refine' rd_fdiv ?h ?_); (case h => exact ⟨by decide, by decide⟩))
  | ((with_reducible refine' rd_pow ?h ?_); (case h => exact ⟨by decide, by decide, by decide⟩))
  | ((with_reducible refine' rd_mul ?h ?_); (case h => first | exact Or.inl (by decide) | exact Or.inr (by decide)))
  | with_reducible refine' rd_set ?_
  | with_reducible refine' rd_asg ?_
  | with_reducible refine' rd_cons ?_
  | with_reducible refine' rd_nil ?_
  | with_reducible refine' rd_call ?_
  | with_reducible refine' rd_cb ?_
  | with_reducible refine' rd_if ?_
  | with_reducible refine' rd_test ?_
  | with_reducible refine' rd_B ?_
  | with_reducible refine' rd_bl ?_
  | ((with_reducible refine' rd_eq ?h ?_); (case h => rfl))
  | ((with_reducible refine' rd_ne ?h ?_); (case h => rfl))
  | with_reducible refine' rd_not ?_
  | with_reducible refine' rd_and ?_
  | with_reducible refine' rd_or ?_
  | with_reducible refine' rd_notV ?_
  | with_reducible refine' rd_chain ?_
  | with_reducible refine' rd_ret ?_
  | with_reducible refine' rd_drop ?_
  | with_reducible refine' rd_next' ?_
  | with_reducible refine' rd_lst ?_
  | with_reducible refine' rd_tup ?_
  | with_reducible refine' rd_lc ?_
  | with_reducible refine' rd_rng1 ?_
  | with_reducible refine' rd_istr ?_
  | with_reducible refine' rd_ilst ?_
  | with_reducible refine' rd_ienum ?_
  | with_reducible refine' rd_bm0 ?_
  | with_reducible refine' rd_bm ?_
  | with_reducible refine' rd_m1 ?_
  | with_reducible refine' rd_sl ?_
  | with_reducible refine' rd_po0 ?_
  | with_reducible refine' rd_po1 ?_
  | with_reducible refine' rd_in ?_
  | with_reducible refine' rd_sub ?_
  | with_reducible refine' rd_ifE ?_
  | with_reducible refine' rd_un ?_
  | with_reducible refine' rd_U ?_
  | with_reducible refine' rd_brk ?_
  | with_reducible refine' rd_cont ?_
  | with_reducible refine' rd_yes ?_
  | with_reducible refine' rd_T ?_
  | with_reducible refine' rd_F ?_
  | with_reducible refine' rd_nT ?_
  | with_reducible refine' rd_nF ?_
  | with_reducible refine' rd_dni ?_
  | with_reducible refine' rd_di ?_
  | with_reducible refine' rd_dget ?_
  | with_reducible refine' rd_dget1 ?_
  | with_reducible refine' rd_dget2 ?_
  | with_reducible refine' rd_dget2N ?_
  | with_reducible refine' rd_dpop1 ?_
  | with_reducible refine' rd_ddel ?_
  | with_reducible refine' rd_mkN ?_
  | with_reducible refine' rd_mkV ?_
  | with_reducible refine' rd_dput ?_
  | with_reducible refine' rd_dnew ?_
  | with_reducible refine' rd_ikeys ?_
  | with_reducible refine' rd_gn ?_
  | with_reducible refine' rd_for ?_
  | with_reducible refine' rd_make ?_
  | with_reducible refine' rd_meth ?_
  | with_reducible refine' rd_fld ?_
  | with_reducible refine' rd_sfld ?_
  | with_reducible refine' rd_dc ?_
  | with_reducible refine' rd_items ?_
  | with_reducible refine' rd_sadd ?_
  | with_reducible refine' rd_ivals ?_
  | with_reducible refine' rd_callS ?_
  | with_reducible refine' rd_makeS ?_
  | with_reducible refine' rd_methS ?_
  | with_reducible refine' rd_fldH ?_
  | with_reducible refine' rd_mkO ?_)
local macro_rules | `(tactic| walk_at "sub") => `(tactic| repeat' (first | exact List.nil_sublist _ | exact List.Sublist.refl _ | apply List.Sublist.cons₂ | apply List.Sublist.cons))
local macro_rules | `(tactic| walk_at "rd") => `(tactic| repeat walk_at "rd1")

section
variable {P : Program} {w : World} {K : PySem.W.Frag} {mg : Str → Option Value} {base : Heap}
/-! ### alike: the same data -/
theorem rd_isi {K : PySem.W.Frag} {x : V} {S T : String} {b : Bool} {H : Hp} {Q : VK} (h : TyX K H x (.type S)) (e : kitB S T = some b) (q : Q (.bl b) H) : rIsi K [x, .ty T] H Q := ⟨x, .ty T, _, .type T, b, rfl, .ty _, h, kit_ty e, q⟩
theorem rd_isiT2 {K : PySem.W.Frag} {x : V} {S T1 T2 : String} {b b1 b2 : Bool} {tp : Addr} {H : Hp} {Q : VK} (ht : H tp = some (.tup [.ty T1, .ty T2])) (h : TyX K H x (.type S)) (e1 : kitB S T1 = some b1) (e2 : kitB S T2 = some b2) (e : b = (b1 || b2)) (q : Q (.bl b) H) : rIsiT K [x, .ref tp] H Q := by
  refine ⟨x, tp, _, _, [.type T1, .type T2], b, rfl, ht, .cons (.ty _) (.cons (.ty _) .nil), h, kitAny_cons (b := b1) (kit_ty e1) (fun h1 => ?_) (fun h1 => by rw [e, h1]; rfl), q⟩
  subst h1
  refine kitAny_cons (b := b2) (kit_ty e2) (fun h2 => ?_) (fun h2 => by rw [e, h2]; rfl)
  subst h2; subst e
  exact kitAny_nil
theorem rd_izA {K : PySem.W.Frag} {tr : TA} {σ : L2.St} {H : Hp} {R : It → Hp → Prop} (k : tr σ H fun vs H1 => ∃ a b xs ys, vs = [.ref a, .ref b] ∧ ((SqL K H1 a xs ∧ SqL K H1 b ys ∧ R (Itz K a b) H1) ∨ (SqT K H1 a xs ∧ SqT K H1 b ys ∧ R (RZ.ItzT K a b) H1))) : RZ.iZipA K tr σ H R := k
theorem all_true (n : Nat) : (List.replicate n true).all id = true := by induction n with
  | zero => rfl
  | succ n ih => rw [List.replicate_succ, List.all_cons, ih]; rfl
def spAlike (K : PySem.W.Frag) (n : Nat) : Sp := fun vs H Q _ => ∃ (x y : V) (d : PyData), vs = [x, y] ∧ Dp K H x d ∧ Dp K H y d ∧ Sm n d ∧ ∀ H', Kp [] H H' → Q (.bl true) H'
structure CAlike (P : Program) (w : World) (K : PySem.W.Frag) (mg : Str → Option Value) (base : Heap) (k : Nat) (sp : Sp) : Prop where
  _law_alike : Cl P w K mg base k "_law_alike" sp
end
end Nn

namespace Nn
open PySem PySem.Spec PyProof.Rows L2
local macro_rules | `(tactic| walk_at "rd1") => `(tactic| first
  | with_reducible refine' rd_c ?_
  | ((with_reducible refine' rd_var ?h ?_); (case h => rfl))
  | with_reducible refine' rd_op ?_
  | with_reducible refine' rd_I0 ?_
  | with_reducible refine' rd_seq ?_
  | ((with_reducible refine' rd_mod ?h ?_); (case h => decide))
  | ((with_reducible refine' rd_fdiv ?h ?_); (case h => exact ⟨by decide, by decide⟩))
  | ((with_reducible refine' rd_pow ?h ?_); (case h => exact ⟨by decide, by decide, by decide⟩))
  | ((with_reducible refine' rd_mul ?h ?_); (case h => first | exact Or.inl (by decide) | exact Or.inr (by decide)))
  | with_reducible refine' rd_set ?_
  | with_reducible refine' rd_asg ?_
  | with_reducible refine' rd_cons ?_
  | with_reducible refine' rd_nil ?_
  | with_reducible refine' rd_call ?_
  | with_reducible refine' rd_cb ?_
  | with_reducible refine' rd_if ?_
  | with_reducible refine' rd_test ?_
  | with_reducible refine' rd_B ?_
  | with_reducible refine' rd_bl ?_
  | ((with_reducible refine' rd_eq ?h ?_); (case h => rfl))
  | ((with_reducible refine' rd_ne ?h ?_); (case h => rfl))
  | with_reducible refine' rd_not ?_
  | with_reducible refine' rd_and ?_
  | with_reducible refine' rd_or ?_
  | with_reducible refine' rd_notV ?_
  | with_reducible refine' rd_chain ?_
  | with_reducible refine' rd_ret ?_
  | with_reducible refine' rd_drop ?_
  | with_reducible refine' rd_next' ?_
  | with_reducible refine' rd_lst ?_
  | with_reducible refine' rd_tup ?_
  | with_reducible refine' rd_lc ?_
  | with_reducible refine' rd_rng1 ?_
  | with_reducible refine' rd_istr ?_
  | with_reducible refine' rd_ilst ?_
  | with_reducible refine' rd_ienum ?_
  | with_reducible refine' rd_bm0 ?_
  | with_reducible refine' rd_bm ?_
  | with_reducible refine' rd_m1 ?_
  | with_reducible refine' rd_sl ?_
  | with_reducible refine' rd_po0 ?_
  | with_reducible refine' rd_po1 ?_
  | with_reducible refine' rd_in ?_
  | with_reducible refine' rd_sub ?_
  | with_reducible refine' rd_ifE ?_
  | with_reducible refine' rd_un ?_
  | with_reducible refine' rd_U ?_
  | with_reducible refine' rd_brk ?_
  | with_reducible refine' rd_cont ?_
  | with_reducible refine' rd_yes ?_
  | with_reducible refine' rd_T ?_
  | with_reducible refine' rd_F ?_
  | with_reducible refine' rd_nT ?_
  | with_reducible refine' rd_nF ?_
  | with_reducible refine' rd_dni ?_
  | with_reducible refine' rd_di ?_
  | with_reducible refine' rd_dget ?_
  | with_reducible refine' rd_dget1 ?_
  | with_reducible refine' rd_dget2 ?_
  | with_reducible refine' rd_dget2N ?_
  | with_reducible refine' rd_dpop1 ?_
  | with_reducible refine' rd_ddel ?_
  | with_reducible refine' rd_mkN ?_
  | with_reducible refine' rd_mkV ?_
  | with_reducible refine' rd_dput ?_
  | with_reducible refine' rd_dnew ?_
  | with_reducible refine' rd_ikeys ?_
  | with_reducible refine' rd_gn ?_
  | with_reducible refine' rd_for ?_
  | with_reducible refine' rd_make ?_
  | with_reducible refine' rd_meth ?_
  | with_reducible refine' rd_fld ?_
  | with_reducible refine' rd_sfld ?_
  | with_reducible refine' rd_dc ?_
  | with_reducible refine' rd_items ?_
  | with_reducible refine' rd_sadd ?_
  | with_reducible refine' rd_ivals ?_
  | with_reducible refine' rd_callS ?_
  | with_reducible refine' rd_makeS ?_
  | with_reducible refine' rd_methS ?_
  | with_reducible refine' rd_fldH ?_
  | with_reducible refine' rd_mkO ?_)
local macro_rules | `(tactic| walk_at "sub") => `(tactic| repeat' (first | exact List.nil_sublist _ | exact List.Sublist.refl _ | apply List.Sublist.cons₂ | apply List.Sublist.cons))
local macro_rules | `(tactic| walk_at "rd") => `(tactic| repeat walk_at "rd1")

section
variable {P : Program} {w : World} {K : PySem.W.Frag} {mg : Str → Option Value} {base : Heap}
/-! ### what a plan tells when it is asked -/
/-- pairs as data -/
def dO : Option Str → PyData
  | none => .none
  | some z => .str z
def dP (e : Str × Option Str) : PyData := .tuple [.str e.1, dO e.2]
theorem dp_ov {H : Hp} (o : Option Str) : Dp K H (ov o) (dO o) := by
  cases o with
  | none => exact .non
  | some z => exact .str z
theorem dpa_strs {H : Hp} (zs : List Str) : DpAll K H (zs.map V.str) (zs.map PyData.str) := dpa_of fun z _ => .str z
theorem dpa_prs {H : Hp} {te : List (Addr × (Str × Option Str))} (h : ∀ x ∈ te.map tP, H x.1 = some x.2) : DpAll K H (te.map fun x => V.ref x.1) ((te.map (·.2)).map dP) := by
  rw [List.map_map]
  exact dpa_of fun x hx => .tup (.inl (.inl (h _ (List.mem_map_of_mem (f := tP) hx)))) (.cons (.str _) (.cons (dp_ov _) .nil))
def duesOf (lv : List (Str × Option Str)) (nl : List Str) (i : Int) : List PyData := if i = 0 then lv.map dP else if i = 1 then (lv.map (·.1)).map PyData.str else nl.map PyData.str
structure CAsked (P : Program) (w : World) (K : PySem.W.Frag) (mg : Str → Option Value) (base : Heap) (Cp : Addr) : Prop where
  Plan_pairs : Mt P w K mg base 1 Cp "pairs" (spPairsM Cp)
  Plan_olds : Mt P w K mg base 1 Cp "olds" (spOldsM Cp)
  Plan_news : Mt P w K mg base 1 Cp "news" (spNewsM Cp)
def spAsked (K : PySem.W.Frag) (C : Addr) : Sp := fun vs H Q _ => ∃ (pl : Addr) (i : Int) (lv : List (Str × Option Str)) (nl : List Str), vs = [.ref pl, .int i] ∧ 0 ≤ i ∧ i < 3 ∧ PlanAt C H pl lv ∧ lv.length < 64 ∧ nl.Perm (lv.filterMap (·.2)) ∧ sortedS nl = true ∧
  ∀ H' p xs (N : List (Addr × HO)), H p = none → H' p = some (.lst xs) → (∀ x ∈ N, H x.1 = none ∧ H' x.1 = some x.2) → (∀ x ∈ N, x.1 ≠ p) → (∀ G : Hp, (∀ x ∈ N, G x.1 = some x.2) → DpAll K G xs (duesOf lv nl i)) → Kp [] H H' → Q (.ref p) H'
end
end Nn

namespace Nn
open PySem PySem.Spec PyProof.Rows L2
/-! ### data: what a plan tells -/
theorem depthAll_le {m : Nat} : ∀ {ds : List PyData}, (∀ e ∈ ds, e.depth ≤ m) → PyData.depthAll ds ≤ m
  | [], _ => Nat.zero_le _
  | d :: ds, h => Nat.max_le.mpr ⟨h d List.mem_cons_self, depthAll_le fun e he => h e (List.mem_cons_of_mem _ he)⟩
theorem canAll {ds : List PyData} (h : ∀ e ∈ ds, e.canLay0 = true) : PyData.canLayAll0 ds = true := by
  induction ds with
  | nil => rfl
  | cons d ds ih => rw [PyData.canLayAll0, h d List.mem_cons_self, ih fun e he => h e (List.mem_cons_of_mem _ he)]; rfl
theorem sm_lay : ∀ (n : Nat) (d : PyData), Sm n d → d.canLay0 = true ∧ d.depth ≤ n
  | n, .none, _ => ⟨rfl, Nat.zero_le _⟩
  | n, .bool _, _ => ⟨rfl, Nat.zero_le _⟩
  | n, .int _, _ => ⟨rfl, Nat.zero_le _⟩
  | n, .str z, h => ⟨by cases n <;> exact h, Nat.zero_le _⟩
  | 0, .list _, h => h.elim
  | 0, .tuple _, h => h.elim
  | n + 1, .list ds, h => ⟨canAll fun e he => (sm_lay n e (h.2 e he)).1, Nat.succ_le_succ (depthAll_le fun e he => (sm_lay n e (h.2 e he)).2)⟩
  | n + 1, .tuple ds, h => ⟨canAll fun e he => (sm_lay n e (h.2 e he)).1, Nat.succ_le_succ (depthAll_le fun e he => (sm_lay n e (h.2 e he)).2)⟩
  | 0, .dict _, h => h.elim
  | n + 1, .dict _, h => h.elim
theorem sm_shaped {n : Nat} {d : PyData} (h : Sm n d) (hn : n ≤ 64) : SeqAt.shaped d = true := by
  unfold SeqAt.shaped
  rw [(sm_lay n d h).1, decide_eq_true (Nat.le_trans (sm_lay n d h).2 hn)]; rfl
theorem sm_str {n : Nat} {z : Str} (h : PyData.strOk z = true) : Sm n (.str z) := by cases n <;> exact h
theorem sm_dO {n : Nat} {o : Option Str} (h : ∀ z, o = some z → PyData.strOk z = true) : Sm n (dO o) := by
  cases o with
  | none => cases n <;> exact True.intro
  | some z => exact sm_str (h z rfl)
theorem sm_list {n : Nat} {ds : List PyData} (hl : ds.length ≤ 1000) (h : ∀ e ∈ ds, Sm n e) : Sm (n + 1) (.list ds) := ⟨hl, h⟩
theorem sm_dues {lv : List (Str × Option Str)} {nl : List Str} (g : Good lv) (hn : nl.Perm (lv.filterMap (·.2))) (i : Int) : Sm 2 (.list (duesOf lv nl i)) := by
  have hl := g.len
  have hnl : nl.length < 64 := by have := hn.length_eq; have := List.length_filterMap_le (fun x : Str × Option Str => x.2) lv; omega
  unfold duesOf
  by_cases h0 : i = 0
  · rw [if_pos h0]
    refine sm_list (by rw [List.length_map]; omega) fun e he => ?_
    obtain ⟨x, hx, rfl⟩ := List.mem_map.mp he
    refine ⟨by show 2 ≤ 1000; omega, fun d hd => ?_⟩
    rcases List.mem_cons.mp hd with rfl | hd
    · exact nameOk_ok (g.old x hx)
    · rw [List.mem_singleton] at hd
      subst hd
      exact sm_dO fun z hz => nameOk_ok (g.new x hx z hz)
  · rw [if_neg h0]
    by_cases h1 : i = 1
    · rw [if_pos h1]
      refine sm_list (by rw [List.length_map, List.length_map]; omega) fun e he => ?_
      obtain ⟨x, hx, rfl⟩ := List.mem_map.mp he
      obtain ⟨y, hy, rfl⟩ := List.mem_map.mp hx
      exact sm_str (nameOk_ok (g.old y hy))
    · rw [if_neg h1]
      refine sm_list (by rw [List.length_map]; omega) fun e he => ?_
      obtain ⟨x, hx, rfl⟩ := List.mem_map.mp he
      obtain ⟨y, hy, ey⟩ := List.mem_filterMap.mp (hn.mem_iff.mp hx)
      exact sm_str (nameOk_ok (g.new y hy x ey))
theorem Good.perm {lv prs : List (Str × Option Str)} (h : lv.Perm prs) (g : Good prs) : Good lv :=
  ⟨fun e he => g.old e (h.mem_iff.mp he), fun e he => g.new e (h.mem_iff.mp he), (h.map _).nodup_iff.mpr g.oldsNd, (h.filterMap _).nodup_iff.mpr g.newsNd, by rw [h.length_eq]; exact g.len⟩
theorem plan_kp {C : Addr} {H H' : Hp} {pl : Addr} {lv : List (Str × Option Str)} (h : PlanAt C H pl lv) (k : Kp [] H H') : PlanAt C H' pl lv := by
  obtain ⟨dx, d, h1, h2⟩ := h
  exact ⟨dx, d, k _ _ h1 (by simp), k _ _ h2 (by simp)⟩
section
variable {M : List Addr} {H0 H H' : Hp} {L L' T : List (Addr × HO)} {p : Addr} {o : HO}
theorem At.addB (A : At M H0 H L T) (k : Kp [] H H') (h : H p = none) (hp : H' p = some o) (N : List (Addr × HO)) (hN : ∀ x ∈ N, H x.1 = none ∧ H' x.1 = some x.2) (hd : ∀ x ∈ N, x.1 ≠ p) : At M H0 H' (L ++ [(p, o)]) (T ++ N) := by
  have B := A.addT (A.c0 k) rfl N hN
  have fr := A.fresh h
  refine ⟨B.base, ?_, ?_, ?_, ?_, B.tm, ?_, B.tn⟩
  · rw [List.map_append, List.nodup_append]
    refine ⟨A.nd, by simp, ?_⟩
    intro a ha b hb q
    rw [List.map_singleton, List.mem_singleton] at hb
    subst q; subst hb
    exact fr ha
  · intro x he
    rcases List.mem_append.mp he with he | he
    · exact B.mem x he
    · rw [List.mem_singleton] at he; subst he; exact hp
  · intro x he
    rcases List.mem_append.mp he with he | he
    · exact A.own x he
    · rw [List.mem_singleton] at he; subst he; exact .inl (A.fresh0 h)
  · intro a ha
    rw [List.map_append]
    exact List.mem_append_left _ (A.mL a ha)
  · intro x he
    rw [List.map_append, List.mem_append]
    rintro (q | q)
    · exact B.td x he q
    · rw [List.map_singleton, List.mem_singleton] at q
      rcases List.mem_append.mp he with he | he
      · exact A.freshT h x he q
      · exact hd x he q
theorem At.perm (A : At M H0 H L T) (h : L.Perm L') : At M H0 H L' T :=
  ⟨A.base, (h.map _).nodup_iff.mp A.nd, fun e he => A.mem e (h.mem_iff.mpr he), fun e he => A.own e (h.mem_iff.mpr he), fun a ha => (h.map _).mem_iff.mp (A.mL a ha), A.tm, fun e he q => A.td e he ((h.map _).mem_iff.mpr q), A.tn⟩
end
section
variable {M : List Addr} {H0 H H' : Hp} {L L' T : List (Addr × HO)} {p : Addr} {o : HO}
theorem At.addC (A : At M H0 H L T) (A' : At M H0 H' L' T) (e : L'.map Prod.fst = L.map Prod.fst) (h : H p = none) (hp : H' p = some o) (N : List (Addr × HO)) (hN : ∀ x ∈ N, H x.1 = none ∧ H' x.1 = some x.2) (hd : ∀ x ∈ N, x.1 ≠ p) : At M H0 H' (L' ++ [(p, o)]) (T ++ N) := by
  have B := A.addT A' e N hN
  have C := A.add A' e h hp
  refine ⟨C.base, C.nd, C.mem, C.own, C.mL, B.tm, ?_, B.tn⟩
  intro x he
  rcases List.mem_append.mp he with he | he
  · exact C.td x he
  · rw [List.map_append, List.mem_append]
    rintro (q | q)
    · exact B.td x (List.mem_append_right _ he) q
    · rw [List.map_singleton, List.mem_singleton] at q
      exact hd x he q
theorem At.allT (A : At [] H0 H L T) : At [] H0 H [] (T ++ L) := by
  refine ⟨A.base, List.nodup_nil, by simp, by simp, by simp, ?_, by simp, ?_⟩
  · intro e he
    rcases List.mem_append.mp he with he | he
    · exact A.tm e he
    · exact A.mem e he
  · intro e he
    rcases List.mem_append.mp he with he | he
    · exact A.tn e he
    · exact (A.own e he).resolve_right (by simp)
end
theorem tP_ne {H : Hp} {p : Addr} {xs : List V} {te : List (Addr × (Str × Option Str))} (hp : H p = some (.lst xs)) (h : ∀ x ∈ te.map tP, H x.1 = some x.2) : ∀ x ∈ te.map tP, x.1 ≠ p := by
  intro x hx e
  have h1 := h x hx
  obtain ⟨y, hy, rfl⟩ := List.mem_map.mp hx
  rw [e, hp] at h1
  cases h1
theorem good_pairs {ps : List Str} {td : List (Str × V)} {prs : List (Str × Option Str)} (hp : Pool ps) (ht : Things ps td) (h : Pairs ps td prs) : Good prs :=
  ⟨fun e he => hp.ok _ (ht.sub _ (h.olds _ (List.mem_map_of_mem (f := fun x : Str × Option Str => x.1) he))), fun e he z hz => hp.ok _ (h.news z (List.mem_filterMap.mpr ⟨e, he, hz⟩)).1, h.oldsNd, h.newsNd, by have := h.len; omega⟩
theorem good_nil : Good [] := ⟨by simp, by simp, by simp, by simp, by decide⟩
theorem eqV_str (x y : Str) : eqV (.str x) (.str y) = decide (x = y) := by
  show (_ : Bool) = _
  by_cases h : x = y
  · subst h; rw [decide_eq_true rfl]; exact beq_self_eq_true _
  · rw [decide_eq_false h]; exact beq_eq_false_iff_ne.mpr h
theorem inV_strs (x : Str) (l : List Str) : inV (.str x) (l.map V.str) = decide (x ∈ l) := by
  unfold inV
  rw [List.any_map]
  induction l with
  | nil => rfl
  | cons y r ih =>
    rw [List.any_cons, ih]
    show (eqV (.str y) (.str x) || _) = _
    rw [eqV_str, ← Bool.decide_or]
    exact decide_eq_decide.mpr (by rw [List.mem_cons, eq_comm (a := x)])
theorem inV_opts (n : Str) (l : List (Option Str)) : inV (.str n) (l.map ov) = decide (some n ∈ l) := by
  unfold inV
  rw [List.any_map]
  induction l with
  | nil => rfl
  | cons e r ih =>
    rw [List.any_cons, ih]
    show (eqV (ov e) (.str n) || _) = _
    cases e with
    | none => exact decide_eq_decide.mpr (by rw [List.mem_cons]; simp)
    | some y =>
      show (eqV (.str y) (.str n) || _) = _
      rw [eqV_str, ← Bool.decide_or]
      exact decide_eq_decide.mpr (by rw [List.mem_cons, eq_comm (a := y)]; simp)
theorem flat_opts (l : List (Option Str)) : (l.map ov).all flatV = true := by
  rw [List.all_map, List.all_eq_true]
  intro o _
  cases o <;> rfl
theorem flat_strs (l : List Str) : (l.map V.str).all flatV = true := by
  rw [List.all_map, List.all_eq_true]
  intro o _
  rfl
/-! ### sorting is there -/
theorem rising_of : ∀ {l : List Str} {p : Str}, (p :: l).Pairwise (fun a b => a.cps.toList ≤ b.cps.toList) → risingS p l = true
  | [], _, _ => rfl
  | y :: r, p, h => by
    have h2 := List.pairwise_cons.mp h
    have h1 := h2.1 y List.mem_cons_self
    show (!ltCps y.cps.toList p.cps.toList && risingS y r) = true
    rw [rising_of h2.2, Bool.and_true, ltCps_eq]
    simpa using h1
theorem sorted_of : ∀ {l : List Str}, l.Pairwise (fun a b => a.cps.toList ≤ b.cps.toList) → sortedS l = true
  | [], _ => rfl
  | _ :: _, h => rising_of h
theorem exists_sorted (l : List Str) : ∃ s, s.Perm l ∧ sortedS s = true := by
  refine ⟨l.mergeSort fun a b => decide (a.cps.toList ≤ b.cps.toList), List.mergeSort_perm _ _, sorted_of ?_⟩
  have := List.pairwise_mergeSort (le := fun a b : Str => decide (a.cps.toList ≤ b.cps.toList)) (fun a b c h1 h2 => decide_eq_true (List.le_trans (of_decide_eq_true h1) (of_decide_eq_true h2))) (fun a b => by
    rcases List.le_total a.cps.toList b.cps.toList with h | h
    · rw [decide_eq_true h]; rfl
    · rw [decide_eq_true h, Bool.or_true]) l
  exact this.imp fun h => of_decide_eq_true h
/-! ### slices -/
theorem cut_take (xs : List V) (i : Int) : ∃ m, cutV xs none (some i) = xs.take m := by
  unfold cutV
  rw [HT.sIx_none, List.drop_zero]
  exact ⟨_, rfl⟩
theorem putK_new_dk {td : List (Str × V)} {z : Str} (v : V) (h : z ∉ td.map (·.1)) : putK (dk td) (Sum.inr z) v = dk (td ++ [(z, v)]) := by
  have hn : valV (dk td) (Sum.inr z) = none := by
    have := valV_dk_some td z
    rw [decide_eq_false h] at this
    exact Option.not_isSome_iff_eq_none.mp (by rw [this]; decide)
  rw [putK_new _ hn]
  unfold dk
  rw [List.map_append]; rfl
end Nn

namespace Nn
open PySem PySem.Spec PyProof.Rows L2
/-! ### rings: going from name to name -/
structure Run (f : Str → Option Str) (z : Str) (l : List Str) : Prop where
  hd : l[0]? = some z
  nd : l.Nodup
  st : ∀ i a b, l[i]? = some a → l[i + 1]? = some b → f a = some b
def Inj (f : Str → Option Str) : Prop := ∀ a b c, f a = some c → f b = some c → a = b
section
variable {f : Str → Option Str} {z a y : Str} {l m : List Str}
theorem Run.one : Run f z [z] := ⟨rfl, by simp, fun i a b _ h => by cases i <;> cases h⟩
theorem last_at : l.getLast? = l[l.length - 1]? := List.getLast?_eq_getElem?
theorem Run.pos (r : Run f z l) : 0 < l.length := by
  cases l with
  | nil => have := r.hd; cases this
  | cons => exact Nat.succ_pos _
theorem Run.mem (r : Run f z l) : z ∈ l := List.mem_of_getElem? r.hd
theorem Run.last (r : Run f z l) : ∃ a, l.getLast? = some a := by
  cases e : l.getLast? with
  | none =>
    rw [List.getLast?_eq_none_iff] at e
    have := r.pos
    rw [e] at this; cases this
  | some a => exact ⟨a, rfl⟩
theorem Run.snoc (r : Run f z l) (h : l.getLast? = some a) (e : f a = some y) (hn : y ∉ l) : Run f z (l ++ [y]) := by
  have hp := r.pos
  refine ⟨by rw [List.getElem?_append_left hp]; exact r.hd, ?_, ?_⟩
  · rw [List.nodup_append]
    refine ⟨r.nd, by simp, ?_⟩
    intro x hx y' hy' q
    rw [List.mem_singleton] at hy'
    subst q; subst hy'
    exact hn hx
  · intro i x y' hx hy'
    by_cases hi : i + 1 < l.length
    · rw [List.getElem?_append_left (by omega)] at hx
      rw [List.getElem?_append_left hi] at hy'
      exact r.st i x y' hx hy'
    · have hl : i + 1 < (l ++ [y]).length := (List.getElem?_eq_some_iff.mp hy').1
      rw [List.length_append, List.length_singleton] at hl
      have e1 : i + 1 = l.length := by omega
      rw [e1, List.getElem?_append_right (Nat.le_refl _), Nat.sub_self] at hy'
      cases hy'
      rw [List.getElem?_append_left (by omega)] at hx
      rw [last_at, show l.length - 1 = i by omega, hx] at h
      cases h
      exact e
/-- the next of the last, where it stands in the run, is its first -/
theorem Run.close (r : Run f z l) (inj : Inj f) (h : l.getLast? = some a) (e : f a = some y) (hy : y ∈ l) : y = z := by
  obtain ⟨j, hj⟩ := List.getElem?_of_mem hy
  cases j with
  | zero => rw [r.hd] at hj; exact (Option.some.inj hj).symm
  | succ j =>
    have hl : j + 1 < l.length := (List.getElem?_eq_some_iff.mp hj).1
    have hx : l[j]? = some l[j] := List.getElem?_eq_getElem (by omega)
    have e2 := r.st j _ _ hx hj
    have e3 : l[j] = a := inj _ _ _ e2 e
    rw [e3] at hx
    rw [last_at] at h
    have := nd_ix r.nd hx h
    omega
/-- round: closed -/
structure Cyc (f : Str → Option Str) (z : Str) (l : List Str) : Prop extends Run f z l where
  cl : ∃ a, l.getLast? = some a ∧ f a = some z
theorem Cyc.next (c : Cyc f z l) (h : a ∈ l) : ∃ y ∈ l, f a = some y := by
  obtain ⟨i, hi⟩ := List.getElem?_of_mem h
  by_cases hl : i + 1 < l.length
  · exact ⟨l[i + 1], List.getElem_mem hl, c.st i _ _ hi (List.getElem?_eq_getElem hl)⟩
  · have h1 : i < l.length := (List.getElem?_eq_some_iff.mp hi).1
    obtain ⟨b, hb, e⟩ := c.cl
    rw [last_at, show l.length - 1 = i by omega, hi] at hb
    cases hb
    exact ⟨z, c.mem, e⟩
theorem Cyc.prev (c : Cyc f z l) (h : a ∈ l) : ∃ y ∈ l, f y = some a := by
  obtain ⟨i, hi⟩ := List.getElem?_of_mem h
  cases i with
  | zero =>
    rw [c.hd] at hi
    cases hi
    obtain ⟨b, hb, e⟩ := c.cl
    exact ⟨b, List.mem_of_getElem? (last_at ▸ hb), e⟩
  | succ i =>
    have h1 : i + 1 < l.length := (List.getElem?_eq_some_iff.mp hi).1
    exact ⟨l[i], List.getElem_mem _, c.st i _ _ (List.getElem?_eq_getElem (by omega)) hi⟩
theorem Cyc.sub (c : Cyc f z l) (r : Run f z m) : ∀ x ∈ m, x ∈ l := by
  have key : ∀ (i : Nat) (x : Str), m[i]? = some x → x ∈ l := by
    intro i
    induction i with
    | zero => intro x hx; rw [r.hd] at hx; cases hx; exact c.mem
    | succ i ih =>
      intro x hx
      have h1 : i + 1 < m.length := (List.getElem?_eq_some_iff.mp hx).1
      have h2 : m[i]? = some m[i] := List.getElem?_eq_getElem (by omega)
      obtain ⟨y, hy, e⟩ := c.next (ih _ h2)
      rw [r.st i _ _ h2 hx] at e
      cases e
      exact hy
  intro x hx
  obtain ⟨i, hi⟩ := List.getElem?_of_mem hx
  exact key i x hi
/-- a run that meets a ring began in it -/
theorem Cyc.back (c : Cyc f z l) (inj : Inj f) {k : Str} (r : Run f k m) {x : Str} (hx : x ∈ m) (hl : x ∈ l) : k ∈ l := by
  have key : ∀ (i : Nat) (x : Str), m[i]? = some x → x ∈ l → k ∈ l := by
    intro i
    induction i with
    | zero => intro x hx h; rw [r.hd] at hx; cases hx; exact h
    | succ i ih =>
      intro x hx h
      have h1 : i + 1 < m.length := (List.getElem?_eq_some_iff.mp hx).1
      have h2 : m[i]? = some m[i] := List.getElem?_eq_getElem (by omega)
      obtain ⟨y, hy, e⟩ := c.prev h
      have := inj _ _ _ e (r.st i _ _ h2 hx)
      exact ih _ h2 (this ▸ hy)
  obtain ⟨i, hi⟩ := List.getElem?_of_mem hx
  exact key i x hi hl
theorem Cyc.uniq (c : Cyc f z l) (d : Cyc f z m) : l = m := by
  have key : ∀ i : Nat, i < l.length → i < m.length → l[i]? = m[i]? := by
    intro i
    induction i with
    | zero => intro _ _; rw [c.hd, d.hd]
    | succ i ih =>
      intro h1 h2
      have e := ih (by omega) (by omega)
      have e1 : l[i]? = some l[i] := List.getElem?_eq_getElem (by omega)
      have e2 : l[i + 1]? = some l[i + 1] := List.getElem?_eq_getElem h1
      have e3 : m[i + 1]? = some m[i + 1] := List.getElem?_eq_getElem h2
      have a1 := c.st i _ _ e1 e2
      have a2 := d.st i _ _ (e ▸ e1) e3
      rw [a1] at a2
      rw [e2, e3, Option.some.inj a2]
  have len : ∀ {p q : List Str}, Cyc f z p → Cyc f z q → (∀ i : Nat, i < p.length → i < q.length → p[i]? = q[i]?) → ¬ p.length < q.length := by
    intro p q c d k h
    obtain ⟨a, ha, e⟩ := c.cl
    have hp := c.pos
    rw [last_at] at ha
    have h1 := k (p.length - 1) (by omega) (by omega)
    have h2 : q[p.length - 1 + 1]? = some q[p.length - 1 + 1] := List.getElem?_eq_getElem (by omega)
    have := d.st _ _ _ (h1 ▸ ha) h2
    rw [e] at this
    have e4 : z = q[p.length - 1 + 1] := Option.some.inj this
    rw [← e4] at h2
    have := nd_ix d.nd d.hd h2
    omega
  have hl : l.length = m.length := by
    have h1 := len c d key
    have h2 := len d c fun i a b => (key i b a).symm
    omega
  refine List.ext_getElem? fun i => ?_
  by_cases h : i < l.length
  · exact key i h (by omega)
  · rw [List.getElem?_eq_none (by omega), List.getElem?_eq_none (by omega)]
/-- a ring, from its least name on -/
structure IsRing (f : Str → Option Str) (z : Str) (l : List Str) : Prop extends Cyc f z l where
  len : 1 < l.length
  least : ∀ x ∈ l, z.cps.toList ≤ x.cps.toList
open Classical in
noncomputable def ringAt (f : Str → Option Str) (z : Str) : Option (List Str) := if h : ∃ l, IsRing f z l then some h.choose else none
theorem ringAt_some (h : IsRing f z l) : ringAt f z = some l := by
  have e : ∃ l, IsRing f z l := ⟨l, h⟩
  unfold ringAt
  rw [dif_pos e, e.choose_spec.toCyc.uniq h.toCyc]
theorem ringAt_none (h : ¬ ∃ l, IsRing f z l) : ringAt f z = none := by
  unfold ringAt
  rw [dif_neg h]
/-- the law's run: it ends where it can't go on -/
theorem law_ring (inj : Inj f) (r : Run f z l) (h : l.getLast? = some a) (e : f a = none ∨ ∃ y ∈ l, f a = some y) : (∃ m, IsRing f z m) ↔ f a = some z ∧ 1 < l.length ∧ ∀ x ∈ l, z.cps.toList ≤ x.cps.toList := by
  constructor
  · rintro ⟨m, g⟩
    have hsub := g.toCyc.sub r
    obtain ⟨y, hy, ey⟩ := g.toCyc.next (hsub a (List.mem_of_getElem? (last_at ▸ h)))
    rcases e with e | ⟨y', hy', e⟩
    · rw [ey] at e; cases e
    · rw [ey] at e
      cases e
      have ez := r.close inj h ey hy'
      subst ez
      have c : Cyc f y l := ⟨r, a, h, ey⟩
      have := c.uniq g.toCyc
      subst this
      exact ⟨ey, g.len, g.least⟩
  · rintro ⟨e, hl, hle⟩
    exact ⟨l, ⟨⟨r, a, h, e⟩, hl, hle⟩⟩
/-- the program's walk -/
theorem walk_ring {keys : List Str} {i : Nat} {S : Str → Prop} (inj : Inj f) (hk : ∀ a b, f a = some b → a ∈ keys) (hz : keys[i]? = some z) (nd : keys.Nodup) (so : keys.Pairwise fun a b => a.cps.toList ≤ b.cps.toList)
    (I1 : ∀ j x, j < i → keys[j]? = some x → S x) (I3 : ∀ x, S x → ∃ j k l, j < i ∧ keys[j]? = some k ∧ Run f k l ∧ x ∈ l) :
    (S z → ¬ ∃ m, IsRing f z m) ∧ ∀ {w : List Str} {a : Str}, Run f z w → (∀ x ∈ w, x ∈ keys ∧ ¬ S x) → w.getLast? = some a → (∀ y, f a = some y → y ∉ keys ∨ S y ∨ y ∈ w) →
      ((∃ m, IsRing f z m) ↔ f a = some z ∧ 1 < w.length) ∧ (f a = some z → 1 < w.length → IsRing f z w) := by
  have lt : ∀ {j : Nat} {k : Str}, j < i → keys[j]? = some k → ¬ z.cps.toList ≤ k.cps.toList := by
    intro j k hj hk' hle
    obtain ⟨h1, e1⟩ := List.getElem?_eq_some_iff.mp hk'
    obtain ⟨h2, e2⟩ := List.getElem?_eq_some_iff.mp hz
    have := List.pairwise_iff_getElem.mp so j i h1 h2 hj
    rw [e1, e2] at this
    have e : k = z := str_ext' (List.le_antisymm this hle)
    subst e
    have := nd_ix nd hk' hz
    omega
  have noS : ∀ {m : List Str}, IsRing f z m → ∀ x ∈ m, ¬ S x := by
    intro m g x hx hS
    obtain ⟨j, k, l, hj, hk', r, hxl⟩ := I3 x hS
    exact lt hj hk' (g.least k (g.toCyc.back inj r hxl hx))
  refine ⟨fun hS ⟨m, g⟩ => noS g z g.mem hS, fun {w a} r hw h hstop => ?_⟩
  have fwd : f a = some z → 1 < w.length → IsRing f z w := by
    intro e hl
    refine ⟨⟨r, a, h, e⟩, hl, fun x hx => ?_⟩
    obtain ⟨hxk, hxS⟩ := hw x hx
    obtain ⟨j, hj⟩ := List.getElem?_of_mem hxk
    by_cases hji : j < i
    · exact absurd (I1 j x hji hj) hxS
    · obtain ⟨h1, e1⟩ := List.getElem?_eq_some_iff.mp hj
      obtain ⟨h2, e2⟩ := List.getElem?_eq_some_iff.mp hz
      by_cases hij : i = j
      · subst hij
        rw [hz] at hj; cases hj; exact List.le_refl _
      · have := List.pairwise_iff_getElem.mp so i j h2 h1 (by omega)
        rw [e1, e2] at this
        exact this
  refine ⟨⟨?_, fun ⟨e, hl⟩ => ⟨w, fwd e hl⟩⟩, fwd⟩
  rintro ⟨m, g⟩
  have hsub := g.toCyc.sub r
  obtain ⟨y, hy, ey⟩ := g.toCyc.next (hsub a (List.mem_of_getElem? (last_at ▸ h)))
  have hyw : y ∈ w := by
    rcases hstop y ey with n | n | n
    · obtain ⟨y', _, ey'⟩ := g.toCyc.next hy
      exact absurd (hk _ _ ey') n
    · exact absurd n (noS g y hy)
    · exact n
  have ez := r.close inj h ey hyw
  subst ez
  have := (Cyc.uniq ⟨r, a, h, ey⟩ g.toCyc)
  subst this
  exact ⟨ey, g.len⟩
end
end Nn

namespace Nn
open PySem PySem.Spec PyProof.Rows L2
local macro_rules | `(tactic| walk_at "rd1") => `(tactic| first
  | with_reducible refine' rd_c ?_
  | ((with_reducible refine' rd_var ?h ?_); (case h => rfl))
  | with_reducible refine' rd_op ?_
  | with_reducible refine' rd_I0 ?_
  | with_reducible refine' rd_seq ?_
  | ((with_reducible refine' rd_mod ?h ?_); (case h => decide))
  | ((with_reducible refine' rd_fdiv ?h ?_); (case h => exact ⟨by decide, by decide⟩))
  | ((with_reducible refine' rd_pow ?h ?_); (case h => exact ⟨by decide, by decide, by decide⟩))
  | ((with_reducible refine' rd_mul ?h ?_); (case h => first | exact Or.inl (by decide) | exact Or.inr (by decide)))
  | with_reducible refine' rd_set ?_
  | with_reducible refine' rd_asg ?_
  | with_reducible refine' rd_cons ?_
  | with_reducible refine' rd_nil ?_
  | with_reducible refine' rd_call ?_
  | with_reducible refine' rd_cb ?_
  | with_reducible refine' rd_if ?_
  | with_reducible refine' rd_test ?_
  | with_reducible refine' rd_B ?_
  | with_reducible refine' rd_bl ?_
  | ((with_reducible refine' rd_eq ?h ?_); (case h => rfl))
  | ((with_reducible refine' rd_ne ?h ?_); (case h => rfl))
  | with_reducible refine' rd_not ?_
  | with_reducible refine' rd_and ?_
  | with_reducible refine' rd_or ?_
  | with_reducible refine' rd_notV ?_
  | with_reducible refine' rd_chain ?_
  | with_reducible refine' rd_ret ?_
  | with_reducible refine' rd_drop ?_
  | with_reducible refine' rd_next' ?_
  | with_reducible refine' rd_lst ?_
  | with_reducible refine' rd_tup ?_
  | with_reducible refine' rd_lc ?_
  | with_reducible refine' rd_rng1 ?_
  | with_reducible refine' rd_istr ?_
  | with_reducible refine' rd_ilst ?_
  | with_reducible refine' rd_ienum ?_
  | with_reducible refine' rd_bm0 ?_
  | with_reducible refine' rd_bm ?_
  | with_reducible refine' rd_m1 ?_
  | with_reducible refine' rd_sl ?_
  | with_reducible refine' rd_po0 ?_
  | with_reducible refine' rd_po1 ?_
  | with_reducible refine' rd_in ?_
  | with_reducible refine' rd_sub ?_
  | with_reducible refine' rd_ifE ?_
  | with_reducible refine' rd_un ?_
  | with_reducible refine' rd_U ?_
  | with_reducible refine' rd_brk ?_
  | with_reducible refine' rd_cont ?_
  | with_reducible refine' rd_yes ?_
  | with_reducible refine' rd_T ?_
  | with_reducible refine' rd_F ?_
  | with_reducible refine' rd_nT ?_
  | with_reducible refine' rd_nF ?_
  | with_reducible refine' rd_dni ?_
  | with_reducible refine' rd_di ?_
  | with_reducible refine' rd_dget ?_
  | with_reducible refine' rd_dget1 ?_
  | with_reducible refine' rd_dget2 ?_
  | with_reducible refine' rd_dget2N ?_
  | with_reducible refine' rd_dpop1 ?_
  | with_reducible refine' rd_ddel ?_
  | with_reducible refine' rd_mkN ?_
  | with_reducible refine' rd_mkV ?_
  | with_reducible refine' rd_dput ?_
  | with_reducible refine' rd_dnew ?_
  | with_reducible refine' rd_ikeys ?_
  | with_reducible refine' rd_gn ?_
  | with_reducible refine' rd_for ?_
  | with_reducible refine' rd_make ?_
  | with_reducible refine' rd_meth ?_
  | with_reducible refine' rd_fld ?_
  | with_reducible refine' rd_sfld ?_
  | with_reducible refine' rd_dc ?_
  | with_reducible refine' rd_items ?_
  | with_reducible refine' rd_sadd ?_
  | with_reducible refine' rd_ivals ?_
  | with_reducible refine' rd_callS ?_
  | with_reducible refine' rd_makeS ?_
  | with_reducible refine' rd_methS ?_
  | with_reducible refine' rd_fldH ?_
  | with_reducible refine' rd_mkO ?_)
local macro_rules | `(tactic| walk_at "sub") => `(tactic| repeat' (first | exact List.nil_sublist _ | exact List.Sublist.refl _ | apply List.Sublist.cons₂ | apply List.Sublist.cons))
local macro_rules | `(tactic| walk_at "rd") => `(tactic| repeat walk_at "rd1")

/-! ### a plan as going from name to name -/
theorem toOf_some {prs : List (Str × Option Str)} {a c : Str} (h : toOf prs a = some c) : (a, some c) ∈ prs := by
  unfold toOf at h
  cases e : prs.find? (fun e => decide (e.1 = a)) with
  | none => rw [e] at h; cases h
  | some x =>
    rw [e] at h
    have h : x.2 = some c := h
    have hx := List.mem_of_find?_eq_some e
    have hz := List.find?_some e
    have hz : x.1 = a := of_decide_eq_true hz
    rw [← hz, ← h]
    exact hx
theorem news_inj : ∀ {prs : List (Str × Option Str)}, (prs.filterMap (·.2)).Nodup → ∀ {a b c : Str}, (a, some c) ∈ prs → (b, some c) ∈ prs → a = b
  | [], _, a, b, c, h, _ => by cases h
  | e :: r, nd, a, b, c, h, h' => by
    have tail : ∀ {x : Str}, (x, some c) ∈ r → c ∈ r.filterMap (·.2) := fun h => List.mem_filterMap.mpr ⟨_, h, rfl⟩
    rcases List.mem_cons.mp h with h1 | h1
    · rcases List.mem_cons.mp h' with h2 | h2
      · rw [← h1] at h2; exact (Prod.mk.inj h2).1.symm
      · subst h1
        rw [List.filterMap_cons_some (f := fun x : Str × Option Str => x.2) (b := c) rfl, List.nodup_cons] at nd
        exact absurd (tail h2) nd.1
    · rcases List.mem_cons.mp h' with h2 | h2
      · subst h2
        rw [List.filterMap_cons_some (f := fun x : Str × Option Str => x.2) (b := c) rfl, List.nodup_cons] at nd
        exact absurd (tail h1) nd.1
      · refine news_inj (prs := r) ?_ h1 h2
        cases e2 : e.2 with
        | none => rw [List.filterMap_cons_none e2] at nd; exact nd
        | some x => rw [List.filterMap_cons_some e2, List.nodup_cons] at nd; exact nd.2
theorem toOf_inj {prs : List (Str × Option Str)} (g : Good prs) : Inj (toOf prs) := fun _ _ _ h h' => news_inj g.newsNd (toOf_some h) (toOf_some h')
theorem toOf_key {prs : List (Str × Option Str)} (a b : Str) (h : toOf prs a = some b) : a ∈ prs.map (·.1) := List.mem_map_of_mem (f := fun x : Str × Option Str => x.1) (toOf_some h)
theorem toOf_val {prs : List (Str × Option Str)} {a : Str} (h : a ∈ prs.map (·.1)) : valV (dko prs) (Sum.inr a) = some (ov (toOf prs a)) := by
  rw [valV_dko]
  unfold toOf
  cases e : prs.find? (fun e => decide (e.1 = a)) with
  | none =>
    rw [List.find?_eq_none] at e
    obtain ⟨x, hx, rfl⟩ := List.mem_map.mp h
    exact absurd (decide_eq_true rfl) (e x hx)
  | some x => rfl
theorem toOf_none {prs : List (Str × Option Str)} {a : Str} (h : a ∉ prs.map (·.1)) : valV (dko prs) (Sum.inr a) = none ∧ toOf prs a = none := by
  have e : prs.find? (fun e => decide (e.1 = a)) = none := by
    rw [List.find?_eq_none]
    intro x hx q
    exact h (of_decide_eq_true q ▸ List.mem_map_of_mem (f := fun x : Str × Option Str => x.1) hx)
  rw [valV_dko]
  unfold toOf
  rw [e]
  exact ⟨rfl, rfl⟩
section
variable {σ : L2.St} {H : Hp} {Q : VK} {ta td : TE} {c : TT} {t : TS} {n bk ct : L2.St → Hp → Prop} {rt : VK}
theorem rd_dinN (k : ta σ H fun y H1 => td σ H1 fun x H2 => (∃ a o, x = .ref a ∧ DGet H2 a y o ∧ Q (.bl o.isSome) H2) ∨ ∃ a kvs, x = .ref a ∧ y = .non ∧ Rd H2 a (.dK kvs) ∧ Q (.bl false) H2) : tDInN ta td σ H Q := k
theorem rd_whileX (X : L2.St → Hp → Prop) (W : Nat → L2.St → Hp → Prop) (m : Nat) (h0 : W m σ H) (hx : ∀ σ H, X σ H → n σ H) (hs : (∀ σ H, X σ H → n σ H) → ∀ m σ H, W m σ H → c σ H fun b H1 => if b = true then ∃ N : L2.St → Hp → Prop, (∀ σ' H', N σ' H' → ∃ m', m' < m ∧ W m' σ' H') ∧ t ⟨N, rt, n, N⟩ σ H1 else n σ H1) : tWhile c t ⟨n, rt, bk, ct⟩ σ H := rd_while W m h0 (hs hx)
end
/-- a ring at its address -/
def tR (x : Addr × List Str) : Addr × HO := (x.1, .tup (x.2.map V.str))
/-- the walk so far, and the name it stands at -/
def Wk (f : Str → Option Str) (keys sl : List Str) (z : Str) (w : List Str) (nm : Option Str) : Prop :=
  (∀ x ∈ w, x ∈ keys ∧ x ∉ sl) ∧ ((w = [] ∧ nm = some z) ∨ (Run f z w ∧ ∃ a, w.getLast? = some a ∧ nm = f a))
theorem Wk.step {f : Str → Option Str} {keys sl w : List Str} {z y : Str} (h : Wk f keys sl z w (some y)) (hk : y ∈ keys) (hs : y ∉ sl) (hw : y ∉ w) : Wk f keys sl z (w ++ [y]) (f y) := by
  refine ⟨fun x hx => ?_, .inr ?_⟩
  · rcases List.mem_append.mp hx with hx | hx
    · exact h.1 x hx
    · rw [List.mem_singleton] at hx; subst hx; exact ⟨hk, hs⟩
  · rcases h.2 with ⟨e, e2⟩ | ⟨r, a, ha, e⟩
    · cases e2; subst e
      exact ⟨Run.one, _, rfl, rfl⟩
    · exact ⟨r.snoc ha e.symm hw, y, by rw [List.getLast?_append]; rfl, rfl⟩
section
variable {P : Program} {w : World} {K : PySem.W.Frag} {mg : Str → Option Value} {base : Heap}
def spRings (C : Addr) : Sp := fun vs H Q _ => ∃ (pl : Addr) (lv : List (Str × Option Str)), vs = [.ref pl] ∧ PlanAt C H pl lv ∧ Good lv ∧ sortedS (lv.map (·.1)) = true ∧
  ∀ H' p (rs : List (Addr × List Str)), rs.map (·.2) = (lv.map (·.1)).filterMap (ringAt (toOf lv)) → H p = none → H' p = some (.lst (rs.map fun x => V.ref x.1)) → (∀ x ∈ rs.map tR, H x.1 = none ∧ H' x.1 = some x.2) → Kp [] H H' → Q (.ref p) H'
theorem ok_Plan_rings {f : Addr} {fd : FuncData} (F : Fun K "rings" "Plan.rings" sPlan_rings f fd) (B : Blt mg) {Cp : Addr} (T : PlanC K Cp) : FnOk P w K mg base CX0 1 f fd PPlan_rings (spRings Cp) := by
  refine F.ok scPlan_rings (fun vs H Q E h => by obtain ⟨pl, lv, rfl, _⟩ := h; rfl) (fun cdv A outer s0 H vs Q E hr h => ?_)
  obtain ⟨pl, lv, rfl, ⟨dx, d, hpl, hd⟩, hg, hso, q⟩ := h
  refine ⟨_, pss_cons (ps_set (i := 1) scPlan_rings.nd rfl (Or.inl rfl) (pe_lst pa_nil))
  (pss_cons (ps_set (i := 2) scPlan_rings.nd rfl (Or.inl rfl) (pe_callTy0 cr_set0K (by rfl) B.set (by decide +kernel)))
  (pss_cons (ps_lock (ps_for PassesOwn.never rfl (pi_keys (pe_fld (pv 0) rfl)) (pg_name (i := 3) scPlan_rings.nd rfl (Or.inl rfl))
   (pss_cons (ps_set (i := 4) scPlan_rings.nd rfl (Or.inl rfl) (pe_lst pa_nil))
  (pss_cons (ps_set (i := 5) scPlan_rings.nd rfl (Or.inl rfl) (pv 3))
  (pss_cons (ps_while PassesOwn.never (PW.pt (pw_and (pt_cmp (pc_dinN (hu_of hr) (pv 5) (pe_fld (pv 0) rfl))) (pw_and1 (pt_cmpR or_snotinK (pv 5) (pv 2) (by rfl))))) (pss_cons (ps_expr (pe_saddK (pv 2) (pa_cons (pv 5) pa_nil)))
  (pss_cons (ps_expr (pe_bm PySem.F.plainAttrs_list PySem.F.slot_list_append PySem.F.type_list_append mt_append (pv 4) (pa_cons (pv 5) pa_nil)))
  (pss_one (ps_set (i := 5) scPlan_rings.nd rfl (Or.inl rfl) (pe_dget (hu_of hr) (pe_fld (pv 0) rfl) (pv 5) (fun _ _ => rfl)))))))
  (pss_one (ps_if (PW.pt (pw_and (pt_cmpR op_eq (pv 5) (pv 3) (nomark _)) (pw_and1 (pt_cmpR op_gt (pe_callB call_len_seq (by rfl) B.len (by decide +kernel) (pa_cons (pv 4) pa_nil)) pe_int (nomark _))))) (pss_one (ps_expr (pe_bm PySem.F.plainAttrs_list PySem.F.slot_list_append PySem.F.type_list_append mt_append (pv 1) (pa_cons (pe_callTy call_tuple_of (by rfl) B.tuple (by decide +kernel) (pa_cons (pv 4) pa_nil)) pa_nil))))
   (pss_nil))))))))
  (pss_one (ps_ret (pv 1))))), ?_⟩
  have A := At.one hd
  have hne : pl ≠ d := ne_of hpl hd (by intro e; cases e)
  have hpN : pl ∉ [d] := by rw [List.mem_singleton]; exact hne
  walk_at "rd"
  refine ⟨szl, fun pf hpf => A.u2 hpf fun H1 A1 => ?_⟩
  walk_at "rd"
  refine ⟨rfl, fun ps hps => A1.u1 hps fun H2 A2 => ?_⟩
  walk_at "rd"
  refine rd_lock (A2.get 0 rfl) trivial fun od => ?_
  have A3 := A2.set 0 rfl (.frz od (.dK (dko lv)))
  walk_at "rd"
  refine ⟨pl, Cp, dx, _, _, rfl, A3.base _ _ hpl hpN, T.cl, T.nl, rfl, ?_⟩
  refine ⟨d, od, rfl, .inl ⟨dko lv, A3.get 0 rfl, ?_⟩⟩
  refine forI (walk_keys (d := d) (o := od) (kvs := dko lv)) (fun i σ H' => ∃ (sl : List Str) (rs : List (Addr × List Str)) (y3 y4 y5 : Option V) (S : Key → Bool), σ = [some (.ref pl), some (.ref pf), some (.ref ps), y3, y4, y5] ∧ (∀ x, S (.inr x) = decide (x ∈ sl)) ∧ sl.Nodup ∧ (∀ x ∈ sl, x ∈ lv.map (·.1)) ∧
      (∀ j x, j < i → (lv.map (·.1))[j]? = some x → x ∈ sl) ∧ (∀ x, x ∈ sl → ∃ j k l, j < i ∧ (lv.map (·.1))[j]? = some k ∧ Run (toOf lv) k l ∧ x ∈ l) ∧ rs.map (·.2) = ((lv.map (·.1)).take i).filterMap (ringAt (toOf lv)) ∧
      At [d] H H' [(d, .frz od (.dK (dko lv))), (pf, .lst (rs.map fun x => V.ref x.1)), (ps, SetK P w ps S sl.length)] (rs.map tR))
    ⟨[], [], none, none, none, _, rfl, by intro x; rfl, List.nodup_nil, by simp, by intro j x h; omega, by simp, rfl, A3⟩ (fun i σ H' _ ⟨_, _, _, _, _, _, _, _, _, _, _, _, _, A⟩ => A.get 0 rfl) ?_ ?_
  · rintro i x σ H4 H4' hi ⟨sl, rs, y3, y4, y5, S, rfl, hS, hnd, hsub, I1, I3, hrs, A4⟩ ⟨rfl, k, v, hk, rfl⟩
    have hi' : i < lv.length := by rw [dko_len] at hi; exact hi
    have ek : k = .inr lv[i].1 := by
      unfold dko dk at hk
      rw [List.map_map, List.getElem?_map, List.getElem?_eq_getElem hi'] at hk
      exact (Prod.mk.inj (Option.some.inj hk)).1.symm
    subst ek
    have hz : (lv.map (·.1))[i]? = some lv[i].1 := by rw [List.getElem?_map, List.getElem?_eq_getElem hi']; rfl
    have htk : (lv.map (·.1)).take (i + 1) = (lv.map (·.1)).take i ++ [lv[i].1] := by rw [List.take_add_one, hz]; rfl
    generalize lv[i].1 = z at *
    have hkl : (lv.map (·.1)).length < 64 := by rw [List.length_map]; exact hg.len
    have WR := walk_ring (S := fun x => x ∈ sl) (toOf_inj hg) toOf_key hz hg.oldsNd (sorted_pw hso) I1 I3
    walk_at "rd"
    refine ⟨szl, fun pw hpw => A4.u2 hpw fun H5 A5 => ?_⟩
    walk_at "rd"
    refine rd_whileX (fun σ H' => ∃ (wk : List Str) (nm : Option Str) (S : Key → Bool), σ = [some (.ref pl), some (.ref pf), some (.ref ps), some (.str z), some (.ref pw), some (ov nm)] ∧ Wk (toOf lv) (lv.map (·.1)) sl z wk nm ∧ (sl ++ wk).Nodup ∧ (∀ x, S (.inr x) = decide (x ∈ sl ++ wk)) ∧
        (∀ y, nm = some y → y ∉ lv.map (·.1) ∨ y ∈ sl ∨ y ∈ wk) ∧ At [d] H H' [(d, .frz od (.dK (dko lv))), (pf, .lst (rs.map fun x => V.ref x.1)), (ps, SetK P w ps S (sl ++ wk).length), (pw, .lst (wk.map V.str))] (rs.map tR))
      (fun m σ H' => ∃ (wk : List Str) (nm : Option Str) (S : Key → Bool), σ = [some (.ref pl), some (.ref pf), some (.ref ps), some (.str z), some (.ref pw), some (ov nm)] ∧ Wk (toOf lv) (lv.map (·.1)) sl z wk nm ∧ (sl ++ wk).Nodup ∧ (∀ x, S (.inr x) = decide (x ∈ sl ++ wk)) ∧
        m + (sl ++ wk).length = (lv.map (·.1)).length ∧ At [d] H H' [(d, .frz od (.dK (dko lv))), (pf, .lst (rs.map fun x => V.ref x.1)), (ps, SetK P w ps S (sl ++ wk).length), (pw, .lst (wk.map V.str))] (rs.map tR))
      ((lv.map (·.1)).length - sl.length) ⟨[], some z, S, rfl, ⟨by simp, .inl ⟨rfl, rfl⟩⟩, by rw [List.append_nil]; exact hnd, by rw [List.append_nil]; exact hS, by rw [List.append_nil]; have := List.Nodup.length_le_of_subset hnd (fun x hx => hsub x hx); omega, by rw [List.append_nil]; exact A5⟩ ?_ ?_
    · rintro σ H6 ⟨wk, nm, S, rfl, hw, hnd2, hS2, hstop, A6⟩
      have hz' : z ∈ sl ++ wk := by
        rcases hw.2 with ⟨e, e2⟩ | ⟨r, _⟩
        · rcases hstop z e2 with n | n | n
          · exact absurd (List.mem_of_getElem? hz) n
          · exact List.mem_append_left _ n
          · exact List.mem_append_right _ n
        · exact List.mem_append_right _ r.mem
      have hrun : ∀ x ∈ wk, Run (toOf lv) z wk := by
        rcases hw.2 with ⟨e, e2⟩ | ⟨r, _⟩
        · subst e; simp
        · exact fun _ _ => r
      have hup : ∀ (H' : Hp) (rs' : List (Addr × List Str)), rs'.map (·.2) = ((lv.map (·.1)).take (i + 1)).filterMap (ringAt (toOf lv)) → At [d] H H' [(d, .frz od (.dK (dko lv))), (pf, .lst (rs'.map fun x => V.ref x.1)), (ps, SetK P w ps S (sl ++ wk).length)] (rs'.map tR) →
          ∃ (sl : List Str) (rs : List (Addr × List Str)) (y3 y4 y5 : Option V) (S : Key → Bool), [some (V.ref pl), some (.ref pf), some (.ref ps), some (.str z), some (.ref pw), some (ov nm)] = [some (.ref pl), some (.ref pf), some (.ref ps), y3, y4, y5] ∧ (∀ x, S (.inr x) = decide (x ∈ sl)) ∧ sl.Nodup ∧ (∀ x ∈ sl, x ∈ lv.map (·.1)) ∧
      (∀ j x, j < i + 1 → (lv.map (·.1))[j]? = some x → x ∈ sl) ∧ (∀ x, x ∈ sl → ∃ j k l, j < i + 1 ∧ (lv.map (·.1))[j]? = some k ∧ Run (toOf lv) k l ∧ x ∈ l) ∧ rs.map (·.2) = ((lv.map (·.1)).take (i + 1)).filterMap (ringAt (toOf lv)) ∧
      At [d] H H' [(d, .frz od (.dK (dko lv))), (pf, .lst (rs.map fun x => V.ref x.1)), (ps, SetK P w ps S sl.length)] (rs.map tR) := by
        intro H' rs' h1 h2
        refine ⟨sl ++ wk, rs', _, _, _, S, rfl, hS2, hnd2, fun x hx => ?_, fun j x hj hx => ?_, fun x hx => ?_, h1, h2⟩
        · rcases List.mem_append.mp hx with hx | hx
          · exact hsub x hx
          · exact (hw.1 x hx).1
        · by_cases hji : j < i
          · exact List.mem_append_left _ (I1 j x hji hx)
          · have : j = i := by omega
            subst this
            rw [hz] at hx
            cases hx
            exact hz'
        · rcases List.mem_append.mp hx with hx | hx
          · obtain ⟨j, k, l, h1, h2, h3, h4⟩ := I3 x hx
            exact ⟨j, k, l, by omega, h2, h3, h4⟩
          · exact ⟨i, z, wk, by omega, hz, hrun x hx, hx⟩
      have hno : (¬ ∃ m, IsRing (toOf lv) z m) → rs.map (·.2) = ((lv.map (·.1)).take (i + 1)).filterMap (ringAt (toOf lv)) := by
        intro h
        rw [htk, List.filterMap_append, hrs, show List.filterMap (ringAt (toOf lv)) [z] = [] by rw [List.filterMap_cons_none (ringAt_none h)]; rfl, List.append_nil]
      have A7 := A6.sel (L' := [(d, .frz od (.dK (dko lv))), (pf, .lst (rs.map fun x => V.ref x.1)), (ps, SetK P w ps S (sl ++ wk).length)]) (by simp) (by walk_at "sub")
      walk_at "rd"
      refine rd_eq (by cases nm <;> rfl) (rd_bl ?_)
      refine rd_ite (fun e => ?_) (fun e => ?_)
      · have e : nm = some z := by
          cases nm with
          | none => cases e
          | some y => exact congrArg some (V.str.inj e)
        walk_at "rd"
        refine ⟨pw, _, rfl, .inl (A6.lst 3 rfl), ?_⟩
        rw [List.length_map]
        walk_at "rd"
        refine rd_ite (fun hl => ?_) (fun hl => ?_)
        · have hl : 1 < wk.length := by omega
          rcases hw.2 with ⟨e0, _⟩ | ⟨r, a, hla, hnm⟩
          · subst e0; cases hl
          have g := (WR.2 r hw.1 hla fun y ey => hstop y (by rw [hnm]; exact ey)).2 (by rw [← hnm]; exact e) hl
          walk_at "rd"
          refine ⟨.inl ⟨rfl, _, A6.lst 1 rfl⟩, ?_⟩
          walk_at "rd"
          refine ⟨pw, _, rfl, .inl ⟨A6.lst 3 rfl, fun pt hpt => A6.t2 hpt fun H8 A8 => ?_⟩⟩
          have hrl : rs.length ≤ 64 := by
            have := congrArg List.length hrs
            rw [List.length_map] at this
            have h2 := List.length_filterMap_le (ringAt (toOf lv)) ((lv.map (·.1)).take i)
            rw [List.length_take] at h2
            omega
          refine ⟨pf, _, _, rfl, rfl, A8.get 1 rfl, by rw [List.length_map]; exact szn' (by omega), ?_⟩
          have A9 := (A8.set 1 rfl (.lst ((rs.map fun x => V.ref x.1) ++ [.ref pt]))).sel (L' := [(d, .frz od (.dK (dko lv))), (pf, .lst ((rs.map fun x => V.ref x.1) ++ [.ref pt])), (ps, SetK P w ps S (sl ++ wk).length)]) (by simp) (by walk_at "sub")
          refine hup _ (rs ++ [(pt, wk)]) ?_ ?_
          · rw [List.map_append, htk, List.filterMap_append, hrs, show List.filterMap (ringAt (toOf lv)) [z] = [wk] by rw [List.filterMap_cons_some (ringAt_some g)]; rfl]; rfl
          · rw [List.map_append, List.map_append]; exact A9
        · refine hup _ rs (hno ?_) A7
          rcases hw.2 with ⟨e0, e2⟩ | ⟨r, a, hla, hnm⟩
          · subst e0
            rw [List.append_nil] at hz'
            exact WR.1 hz'
          · intro h
            have := ((WR.2 r hw.1 hla fun y ey => hstop y (by rw [hnm]; exact ey)).1.mp h).2
            omega
      · refine rd_F ?_
        refine hup _ rs (hno ?_) A7
        rcases hw.2 with ⟨e0, e2⟩ | ⟨r, a, hla, hnm⟩
        · subst e2
          exact absurd rfl e
        · intro h
          have := ((WR.2 r hw.1 hla fun y ey => hstop y (by rw [hnm]; exact ey)).1.mp h).1
          rw [hnm, this] at e
          exact absurd rfl e
    · rintro hx m σ H6 ⟨wk, nm, S, rfl, hw, hnd2, hS2, hm, A6⟩
      walk_at "rd"
      refine rd_dinN ?_
      walk_at "rd"
      refine ⟨pl, Cp, dx, _, _, rfl, A6.base _ _ hpl hpN, T.cl, T.nl, rfl, ?_⟩
      cases nm with
      | none =>
        refine .inr ⟨d, _, rfl, rfl, .inr ⟨od, A6.get 0 rfl⟩, rd_bl ?_⟩
        refine rd_F (rd_F ?_)
        exact hx _ _ ⟨wk, none, S, rfl, hw, hnd2, hS2, by simp, A6⟩
      | some y =>
        refine .inl ⟨d, _, rfl, .inl ⟨dko lv, .inr y, .inr ⟨od, A6.get 0 rfl⟩, rfl, rfl⟩, rd_bl ?_⟩
        rw [valV_dko_some]
        refine rd_ite (fun hyk => ?_) (fun hyk => ?_)
        · walk_at "rd"
          refine ⟨.inr y, ps, S, _, rfl, rfl, A6.get 2 rfl, rd_bl ?_⟩
          rw [if_pos rfl, hS2]
          refine rd_iteN (fun hys => ?_) (fun hys => ?_)
          · have hnd3 : (sl ++ (wk ++ [y])).Nodup := by
              rw [← List.append_assoc, List.nodup_append]
              refine ⟨hnd2, by simp, ?_⟩
              intro a ha b hb e
              rw [List.mem_singleton] at hb
              subst e; subst hb
              exact hys ha
            have hw' := hw.step hyk (fun h => hys (List.mem_append_left _ h)) (fun h => hys (List.mem_append_right _ h))
            have hlen3 : (sl ++ (wk ++ [y])).length ≤ (lv.map (·.1)).length := List.Nodup.length_le_of_subset hnd3 fun x hx => by
              rcases List.mem_append.mp hx with hx | hx
              · exact hsub x hx
              · exact (hw'.1 x hx).1
            have e3 : (sl ++ (wk ++ [y])).length = (sl ++ wk).length + 1 := by rw [← List.append_assoc, List.length_append (as := sl ++ wk)]; rfl
            refine ⟨fun σ' H' => ∃ m', m' < m ∧ ∃ (wk : List Str) (nm : Option Str) (S : Key → Bool), σ' = [some (.ref pl), some (.ref pf), some (.ref ps), some (.str z), some (.ref pw), some (ov nm)] ∧ Wk (toOf lv) (lv.map (·.1)) sl z wk nm ∧ (sl ++ wk).Nodup ∧ (∀ x, S (.inr x) = decide (x ∈ sl ++ wk)) ∧
              m' + (sl ++ wk).length = (lv.map (·.1)).length ∧ At [d] H H' [(d, .frz od (.dK (dko lv))), (pf, .lst (rs.map fun x => V.ref x.1)), (ps, SetK P w ps S (sl ++ wk).length), (pw, .lst (wk.map V.str))] (rs.map tR), fun σ' H' h => h, ?_⟩
            walk_at "rd"
            refine ⟨⟨_, _, _, rfl, A6.get 2 rfl⟩, ?_⟩
            walk_at "rd"
            refine ⟨_, .inr y, S, _, rfl, rfl, A6.get 2 rfl, by unfold scanBound; omega, ?_⟩
            have eS : S (.inr y) = false := by rw [hS2, decide_eq_false hys]
            rw [eS, if_neg (by decide), ← e3]
            dsimp only
            refine A6.s1 2 rfl fun H7 A7 => ?_
            walk_at "rd"
            refine ⟨.inl ⟨rfl, _, A7.lst 3 rfl⟩, ?_⟩
            walk_at "rd"
            refine ⟨pw, _, _, rfl, rfl, A7.get 3 rfl, ?_, A7.s2 3 rfl fun H8 A8 => ?_⟩
            · have h9 : wk.length ≤ (sl ++ wk).length := by rw [List.length_append]; omega
              rw [List.length_map]; exact szn' (by omega)
            walk_at "rd"
            refine ⟨pl, Cp, dx, _, _, rfl, A8.base _ _ hpl hpN, T.cl, T.nl, rfl, ?_⟩
            walk_at "rd"
            refine ⟨d, ov (toOf lv y), rfl, ?_, ?_⟩
            · rw [← toOf_val hyk]; exact .inl ⟨dko lv, .inr y, .inr ⟨od, A8.get 0 rfl⟩, rfl, rfl⟩
            refine ⟨m - 1, by omega, wk ++ [y], toOf lv y, fun j => S j || decide (j = .inr y), rfl, hw', hnd3, fun x => ?_, by omega, ?_⟩
            · show (S (.inr x) || decide (Sum.inr x = Sum.inr y)) = _
              rw [hS2, ← Bool.decide_or]
              refine decide_eq_decide.mpr ?_
              rw [← List.append_assoc, List.mem_append (s := sl ++ wk), List.mem_singleton]
              exact ⟨fun h => h.imp_right Sum.inr.inj, fun h => h.imp_right (congrArg _)⟩
            · rw [List.map_append]; exact A8
          · exact hx _ _ ⟨wk, some y, S, rfl, hw, hnd2, hS2, by rintro y' e; cases e; exact .inr (List.mem_append.mp hys), A6⟩
        · refine rd_F ?_
          exact hx _ _ ⟨wk, some y, S, rfl, hw, hnd2, hS2, by rintro y' e; cases e; exact .inl hyk, A6⟩
  · rintro σ H4 ⟨sl, rs, y3, y4, y5, S, rfl, hS, hnd, hsub, I1, I3, hrs, A4⟩
    rw [dko_len, ← List.length_map (f := fun x : Str × Option Str => x.1), List.take_length] at hrs
    refine ⟨A4.get 0 rfl, ?_⟩
    have A5 := A4.set 0 rfl (.dK (dko lv))
    revert A5
    generalize upd H4 d (.dK (dko lv)) = H5
    intro A5
    walk_at "rd"
    refine q _ pf rs hrs (A5.new0 1 rfl (by rw [List.mem_singleton]; exact A5.ne 1 0 rfl rfl (by decide))) (A5.get 1 rfl) (fun x hx => ⟨A5.tn x hx, A5.tm x hx⟩) fun b o hb _ => ?_
    by_cases e : b = d
    · subst e
      rw [hd] at hb
      cases hb
      exact A5.get 0 rfl
    · exact A5.base b o hb (by rw [List.mem_singleton]; exact e)
end
end Nn

namespace Nn
open PySem PySem.Spec PyProof.Rows L2
/-! ### going up a chain: from a name to what comes to it -/
structure UpRun (f : Str → Option Str) (z : Str) (l : List Str) : Prop where
  hd : l[0]? = some z
  nd : l.Nodup
  st : ∀ i a b, l[i]? = some a → l[i + 1]? = some b → f b = some a
structure UpAll (f : Str → Option Str) (z : Str) (l : List Str) : Prop extends UpRun f z l where
  fin : ∀ a c, l.getLast? = some a → f c ≠ some a
section
variable {f : Str → Option Str} {z a b c y : Str} {l m : List Str}
theorem UpRun.one : UpRun f z [z] := ⟨rfl, by simp, fun i a b _ h => by cases i <;> cases h⟩
theorem UpRun.pos (r : UpRun f z l) : 0 < l.length := by
  cases l with
  | nil => exact nomatch r.hd
  | cons x r => exact Nat.succ_pos _
theorem UpRun.last (r : UpRun f z l) : ∃ a, l.getLast? = some a := by
  cases l with
  | nil => exact nomatch r.hd
  | cons x r => exact ⟨_, List.getLast?_eq_some_getLast (by simp)⟩
theorem UpRun.notin (r : UpRun f z l) (hz : f z = none) (h : l.getLast? = some a) (e : f c = some a) : c ∉ l := fun hm => by
  obtain ⟨i, hi⟩ := List.getElem?_of_mem hm
  cases i with
  | zero =>
    rw [r.hd] at hi
    cases hi
    rw [hz] at e
    cases e
  | succ i =>
    have hil := (List.getElem?_eq_some_iff.mp hi).1
    have hp : l[i]? = some (l[i]'(by omega)) := List.getElem?_eq_getElem (by omega)
    have := r.st i _ _ hp hi
    rw [this] at e
    have e := Option.some.inj e
    rw [last_at] at h
    rw [e] at hp
    have := nd_ix r.nd hp h
    omega
theorem UpRun.snoc (r : UpRun f z l) (hz : f z = none) (h : l.getLast? = some a) (e : f c = some a) : UpRun f z (l ++ [c]) := by
  have hn := r.notin hz h e
  have hp := r.pos
  refine ⟨by rw [List.getElem?_append_left hp]; exact r.hd, ?_, fun i x y hx hy => ?_⟩
  · rw [List.nodup_append]
    refine ⟨r.nd, by simp, fun x hx y hy q => ?_⟩
    rw [List.mem_singleton] at hy
    subst q; subst hy
    exact hn hx
  · by_cases hi : i + 1 < l.length
    · rw [List.getElem?_append_left (by omega)] at hx
      rw [List.getElem?_append_left hi] at hy
      exact r.st i x y hx hy
    · have hlt := (List.getElem?_eq_some_iff.mp hy).1
      rw [List.length_append] at hlt
      have hlt : i + 1 < l.length + 1 := hlt
      have e1 : i = l.length - 1 := by omega
      rw [List.getElem?_append_left (by omega), e1, ← last_at, h] at hx
      cases hx
      rw [List.getElem?_append_right (by omega), show i + 1 - l.length = 0 by omega] at hy
      cases hy
      exact e
theorem UpAll.uniq (inj : Inj f) (h : UpAll f z l) (g : UpAll f z m) : l = m := by
  refine List.ext_getElem? fun i => ?_
  induction i with
  | zero => rw [h.hd, g.hd]
  | succ i ih =>
    have key : ∀ {l m : List Str}, UpAll f z l → UpAll f z m → l[i]? = m[i]? → ∀ b, l[i + 1]? = some b → m[i + 1]? = some b := fun {l m} h g ih b hb => by
      have hil := (List.getElem?_eq_some_iff.mp hb).1
      have ha : l[i]? = some (l[i]'(by omega)) := List.getElem?_eq_getElem (by omega)
      have e := h.st i _ _ ha hb
      rw [ih] at ha
      cases hm : m[i + 1]? with
      | none =>
        have hml := (List.getElem?_eq_some_iff.mp ha).1
        have := List.getElem?_eq_none_iff.mp hm
        have e1 : m.length - 1 = i := by omega
        exact absurd e (g.fin _ _ (by rw [last_at, e1]; exact ha))
      | some b' => rw [inj _ _ _ e (g.st i _ _ ha hm)]
    cases hb : l[i + 1]? with
    | some b => rw [key h g ih b hb]
    | none =>
      cases hb' : m[i + 1]? with
      | none => rfl
      | some b' => rw [key g h ih.symm b' hb'] at hb; cases hb
end
/-- a deed, as its row's words -/
abbrev mvD (c a : Str) : List Str := ["move", c, a]
abbrev drD (a : Str) : List Str := ["drop", a]
/-- the moves up a chain -/
def upM : List Str → List (List Str)
  | a :: b :: r => mvD b a :: upM (b :: r)
  | _ => []
theorem upM_snoc : ∀ {l : List Str} {a c : Str}, l.getLast? = some a → upM (l ++ [c]) = upM l ++ [mvD c a]
  | [], a, c, h => by cases h
  | [x], a, c, h => by cases h; rfl
  | x :: y :: r, a, c, h => by
    have h' : (y :: r).getLast? = some a := h
    show mvD y x :: upM ((y :: r) ++ [c]) = mvD y x :: upM (y :: r) ++ [mvD c a]
    rw [upM_snoc h']; rfl
theorem upM_len : ∀ l : List Str, (upM l).length ≤ l.length
  | [] => Nat.le_refl _
  | [x] => Nat.zero_le _
  | x :: y :: r => by
    have := upM_len (y :: r)
    show (upM (y :: r)).length + 1 ≤ (y :: r).length + 1
    omega
noncomputable def upAt (f : Str → Option Str) (z : Str) : List Str := by
  classical
  exact if h : ∃ l, UpAll f z l then h.choose else []
theorem upAt_eq {f : Str → Option Str} {z : Str} {l : List Str} (inj : Inj f) (h : UpAll f z l) : upAt f z = l := by
  unfold upAt
  rw [dif_pos ⟨l, h⟩]
  exact UpAll.uniq inj (Exists.choose_spec (⟨l, h⟩ : ∃ l, UpAll f z l)) h
/-- the deeds of a plan's chains -/
noncomputable def chainE (lv : List (Str × Option Str)) (e : Str × Option Str) : List (List Str) := match e.2 with
  | none => drD e.1 :: upM (upAt (toOf lv) e.1)
  | some n => if n ∈ lv.map (·.1) then [] else upM (upAt (toOf lv) n)
noncomputable def chainF (lv : List (Str × Option Str)) : List (List Str) := lv.flatMap (chainE lv)
/-- the deeds of a ring -/
def stepR (r : List Str) (i : Nat) : List Str := mvD (r.getD (r.length - 2 - i) "") (r.getD (r.length - 1 - i) "")
def ringD (s : Str) (r : List Str) : List (List Str) := mvD (r.getD (r.length - 1) "") s :: ((List.range (r.length - 1)).map (stepR r) ++ [mvD s (r.getD 0 "")])
noncomputable def ringsF (lv : List (Str × Option Str)) : List (List Str) := (lv.map (·.1)).filterMap (ringAt (toOf lv))
noncomputable def deedsF (lv : List (Str × Option Str)) (sp : Option Str) : List (List Str) := chainF lv ++ (ringsF lv).flatMap (ringD (sp.getD ""))
/-- who comes to a name, as a dict -/
def cmr (lv : List (Str × Option Str)) : List (Str × V) := lv.filterMap fun e => e.2.map fun n => (n, V.str e.1)
theorem cmr_keys (lv : List (Str × Option Str)) : (cmr lv).map (·.1) = lv.filterMap (·.2) := by
  unfold cmr
  rw [List.map_filterMap]
  refine congrArg (fun g => List.filterMap g lv) (funext fun e => ?_)
  cases h : e.2 <;> rfl
theorem cmr_some {lv : List (Str × Option Str)} (g : Good lv) {c x : Str} (h : toOf lv c = some x) : valV (dk (cmr lv)) (Sum.inr x) = some (.str c) := by
  have hm : (x, V.str c) ∈ cmr lv := List.mem_filterMap.mpr ⟨(c, some x), toOf_some h, rfl⟩
  have nd : ((cmr lv).map (·.1)).Nodup := by rw [cmr_keys]; exact g.newsNd
  rw [valV_dk]
  have : (cmr lv).find? (fun e => decide (e.1 = x)) = some (x, .str c) := by
    revert hm nd
    generalize cmr lv = td
    intro hm nd
    induction td with
    | nil => cases hm
    | cons y r ih =>
      rw [List.map_cons, List.nodup_cons] at nd
      rcases List.mem_cons.mp hm with e | e
      · subst e; exact List.find?_cons_of_pos (by simp)
      · rw [List.find?_cons_of_neg, ih e nd.2]
        intro q
        exact nd.1 (of_decide_eq_true q ▸ List.mem_map_of_mem (f := Prod.fst) e)
  rw [this]; rfl
theorem cmr_none {lv : List (Str × Option Str)} (g : Good lv) {x : Str} (h : ∀ c, toOf lv c ≠ some x) : valV (dk (cmr lv)) (Sum.inr x) = none := by
  have hk : x ∉ (cmr lv).map (·.1) := fun hm => by
    rw [cmr_keys] at hm
    obtain ⟨e, he, ex⟩ := List.mem_filterMap.mp hm
    exact h e.1 (by rw [toOf_mem g.oldsNd he, ex])
  have := valV_dk_some (cmr lv) x
  rw [decide_eq_false hk] at this
  exact Option.not_isSome_iff_eq_none.mp (by rw [this]; decide)
/-- deeds at their addresses: at most as many as names, and each ring's -/
theorem upAll_len {lv : List (Str × Option Str)} {z : Str} {l : List Str} (h : UpRun (toOf lv) z l) : l.length ≤ lv.length + 1 := by
  have ht : ∀ x ∈ l.tail, x ∈ lv.map (·.1) := fun x hx => by
    obtain ⟨i, hi⟩ := List.getElem?_of_mem hx
    rw [List.getElem?_tail] at hi
    have hil := (List.getElem?_eq_some_iff.mp hi).1
    exact toOf_key _ _ (h.st i _ _ (List.getElem?_eq_getElem (by omega)) hi)
  have nd : l.tail.Nodup := h.nd.sublist (List.tail_sublist l)
  have := List.Nodup.length_le_of_subset nd ht
  rw [List.length_tail, List.length_map] at this
  omega
end Nn

namespace Nn
open PySem PySem.Spec PyProof.Rows L2
local macro_rules | `(tactic| walk_at "rd1") => `(tactic| first
  | with_reducible refine' rd_c ?_
  | ((with_reducible refine' rd_var ?h ?_); (case h => rfl))
  | with_reducible refine' rd_op ?_
  | with_reducible refine' rd_I0 ?_
  | with_reducible refine' rd_seq ?_
  | ((with_reducible refine' rd_mod ?h ?_); (case h => decide))
  | ((with_reducible refine' rd_fdiv ?h ?_); (case h => exact ⟨by decide, by decide⟩))
  | ((with_reducible refine' rd_pow ?h ?_); (case h => exact ⟨by decide, by decide, by decide⟩))
  | ((with_reducible refine' rd_mul ?h ?_); (case h => first | exact Or.inl (by decide) | exact Or.inr (by decide)))
  | with_reducible refine' rd_set ?_
  | with_reducible refine' rd_asg ?_
  | with_reducible refine' rd_cons ?_
  | with_reducible refine' rd_nil ?_
  | with_reducible refine' rd_call ?_
  | with_reducible refine' rd_cb ?_
  | with_reducible refine' rd_if ?_
  | with_reducible refine' rd_test ?_
  | with_reducible refine' rd_B ?_
  | with_reducible refine' rd_bl ?_
  | ((with_reducible refine' rd_eq ?h ?_); (case h => rfl))
  | ((with_reducible refine' rd_ne ?h ?_); (case h => rfl))
  | with_reducible refine' rd_not ?_
  | with_reducible refine' rd_and ?_
  | with_reducible refine' rd_or ?_
  | with_reducible refine' rd_notV ?_
  | with_reducible refine' rd_chain ?_
  | with_reducible refine' rd_ret ?_
  | with_reducible refine' rd_drop ?_
  | with_reducible refine' rd_next' ?_
  | with_reducible refine' rd_lst ?_
  | with_reducible refine' rd_tup ?_
  | with_reducible refine' rd_lc ?_
  | with_reducible refine' rd_rng1 ?_
  | with_reducible refine' rd_istr ?_
  | with_reducible refine' rd_ilst ?_
  | with_reducible refine' rd_ienum ?_
  | with_reducible refine' rd_bm0 ?_
  | with_reducible refine' rd_bm ?_
  | with_reducible refine' rd_m1 ?_
  | with_reducible refine' rd_sl ?_
  | with_reducible refine' rd_po0 ?_
  | with_reducible refine' rd_po1 ?_
  | with_reducible refine' rd_in ?_
  | with_reducible refine' rd_sub ?_
  | with_reducible refine' rd_ifE ?_
  | with_reducible refine' rd_un ?_
  | with_reducible refine' rd_U ?_
  | with_reducible refine' rd_brk ?_
  | with_reducible refine' rd_cont ?_
  | with_reducible refine' rd_yes ?_
  | with_reducible refine' rd_T ?_
  | with_reducible refine' rd_F ?_
  | with_reducible refine' rd_nT ?_
  | with_reducible refine' rd_nF ?_
  | with_reducible refine' rd_dni ?_
  | with_reducible refine' rd_di ?_
  | with_reducible refine' rd_dget ?_
  | with_reducible refine' rd_dget1 ?_
  | with_reducible refine' rd_dget2 ?_
  | with_reducible refine' rd_dget2N ?_
  | with_reducible refine' rd_dpop1 ?_
  | with_reducible refine' rd_ddel ?_
  | with_reducible refine' rd_mkN ?_
  | with_reducible refine' rd_mkV ?_
  | with_reducible refine' rd_dput ?_
  | with_reducible refine' rd_dnew ?_
  | with_reducible refine' rd_ikeys ?_
  | with_reducible refine' rd_gn ?_
  | with_reducible refine' rd_for ?_
  | with_reducible refine' rd_make ?_
  | with_reducible refine' rd_meth ?_
  | with_reducible refine' rd_fld ?_
  | with_reducible refine' rd_sfld ?_
  | with_reducible refine' rd_dc ?_
  | with_reducible refine' rd_items ?_
  | with_reducible refine' rd_sadd ?_
  | with_reducible refine' rd_ivals ?_
  | with_reducible refine' rd_callS ?_
  | with_reducible refine' rd_makeS ?_
  | with_reducible refine' rd_methS ?_
  | with_reducible refine' rd_fldH ?_
  | with_reducible refine' rd_mkO ?_)
local macro_rules | `(tactic| walk_at "sub") => `(tactic| repeat' (first | exact List.nil_sublist _ | exact List.Sublist.refl _ | apply List.Sublist.cons₂ | apply List.Sublist.cons))
local macro_rules | `(tactic| walk_at "rd") => `(tactic| repeat walk_at "rd1")

section
variable {P : Program} {w : World} {K : PySem.W.Frag} {mg : Str → Option Value} {base : Heap}
/-- a new list of deeds: ds; at p; each deed in a tuple of its own -/
def NewD (H : Hp) (ds : List (List Str)) (Q : VK) : Prop := ∀ H' p (rs : List (Addr × List Str)), rs.map (·.2) = ds → H p = none → H' p = some (.lst (rs.map fun x => V.ref x.1)) → (∀ x ∈ rs.map tR, H x.1 = none ∧ H' x.1 = some x.2) → Kp [] H H' → Q (.ref p) H'
theorem rs_len {rs : List (Addr × List Str)} {ds : List (List Str)} (h : rs.map (·.2) = ds) : rs.length = ds.length := by rw [← h, List.length_map]
def spUp : Sp := fun vs H Q _ => ∃ (z : Str) (c : Addr) (lv : List (Str × Option Str)), vs = [.str z, .ref c] ∧ H c = some (.dK (dk (cmr lv))) ∧ Good lv ∧ toOf lv z = none ∧ NewD H (upM (upAt (toOf lv) z)) Q
theorem ok__moves_up {f : Addr} {fd : FuncData} (F : Fun K "_moves_up" "_moves_up" s_moves_up f fd) (B : Blt mg) (g_MOVE : ∃ t, mg "MOVE" = some (.str "move" t)) : FnOk P w K mg base CX0 1 f fd P_moves_up spUp := by
  refine F.ok sc_moves_up (fun vs H Q E h => by obtain ⟨z, c, lv, rfl, _⟩ := h; rfl) (fun cdv A outer s0 H vs Q E hr h => ?_)
  obtain ⟨z, c, lv, rfl, hc, hg, hz, q⟩ := h
  refine ⟨_, pss_cons (ps_set (i := 2) sc_moves_up.nd rfl (Or.inl rfl) (pe_lst pa_nil))
  (pss_cons (ps_while PassesOwn.never (pt_cmp (pc_din (hu_of hr) (pv 0) (pv 1))) (pss_cons (ps_set (i := 3) sc_moves_up.nd rfl (Or.inl rfl) (pe_dget (hu_of hr) (pv 1) (pv 0) (fun _ _ => rfl)))
  (pss_cons (ps_expr (pe_bm PySem.F.plainAttrs_list PySem.F.slot_list_append PySem.F.type_list_append mt_append (pv 2) (pa_cons (pe_tup (pa_cons (pe_gstr (by rfl) g_MOVE) (pa_cons (pv 3) (pa_cons (pv 0) pa_nil)))) pa_nil)))
  (pss_one (ps_set (i := 0) sc_moves_up.nd rfl (Or.inl rfl) (pv 3))))))
  (pss_one (ps_ret (pv 2)))), ?_⟩
  have A := At.nil H
  walk_at "rd"
  refine ⟨szl, fun pm hpm => A.u1 hpm fun H1 A1 => ?_⟩
  walk_at "rd"
  refine rd_while (fun m σ H' => ∃ (l : List Str) (cur : Str) (rs : List (Addr × List Str)) (y3 : Option V), UpRun (toOf lv) z l ∧ l.getLast? = some cur ∧ rs.map (·.2) = upM l ∧ m + l.length = lv.length + 1 ∧ σ = [some (.str cur), some (.ref c), some (.ref pm), y3] ∧
    At [] H H' [(pm, .lst (rs.map fun x => V.ref x.1))] (rs.map tR)) lv.length ⟨[z], z, [], none, UpRun.one, rfl, rfl, rfl, rfl, A1⟩ ?_
  rintro m σ H3 ⟨l, cur, rs, y3, hru, hl, hrs, hm, rfl, A3⟩
  have hc3 := A3.keep _ _ hc (by simp)
  have hrl := rs_len hrs
  have hul := upM_len l
  have hll := upAll_len hru
  have hgl := hg.len
  walk_at "rd"
  refine ⟨c, _, rfl, DGet.k (k := Sum.inr cur) hc3, rd_bl ?_⟩
  by_cases h : ∃ w, toOf lv w = some cur
  · obtain ⟨w, hw⟩ := h
    have hru' := hru.snoc hz hl hw
    have hll' := upAll_len hru'
    rw [List.length_append] at hll'
    have hll' : l.length + 1 ≤ lv.length + 1 := hll'
    rw [cmr_some hg hw]
    refine rd_T ?_
    walk_at "rd"
    refine ⟨_, fun _ _ h => h, ?_⟩
    walk_at "rd"
    refine ⟨c, .str w, rfl, by rw [← cmr_some hg hw]; exact DGet.k (k := Sum.inr cur) hc3, ?_⟩
    walk_at "rd"
    refine ⟨.inl ⟨rfl, _, A3.lst 0 rfl⟩, ?_⟩
    walk_at "rd"
    refine ⟨szl, fun t ht => ?_⟩
    have A4 := A3.snocT ht (.tup ([("move" : Str), w, cur].map V.str))
    refine ⟨pm, _, _, rfl, rfl, A4.get 0 rfl, by rw [List.length_map]; exact szn' (by omega), ?_⟩
    have A5 := A4.set 0 rfl (.lst ((rs.map fun x => V.ref x.1) ++ [.ref t]))
    walk_at "rd"
    refine ⟨m - 1, by omega, l ++ [w], w, rs ++ [(t, mvD w cur)], _, hru', by rw [List.getLast?_append]; rfl, ?_, by rw [List.length_append]; show m - 1 + (l.length + 1) = _; omega, rfl, ?_⟩
    · rw [List.map_append, hrs, upM_snoc hl]; rfl
    · rw [List.map_append, List.map_append]; exact A5
  · rw [cmr_none hg (fun w hw => h ⟨w, hw⟩)]
    refine rd_F ?_
    walk_at "rd"
    have hall : UpAll (toOf lv) z l := ⟨hru, fun a w ha hw => h ⟨w, by rw [hl] at ha; cases ha; exact hw⟩⟩
    rw [upAt_eq (toOf_inj hg) hall] at q
    exact q _ pm rs hrs (A3.new0 0 rfl (by simp)) (A3.get 0 rfl) (fun x hx => ⟨A3.tn x hx, A3.tm x hx⟩) A3.keep
theorem atI_end {l : List Str} (h : 0 < l.length) : atI (l.map V.str) (-1) = some (.str (l.getD (l.length - 1) "")) := by
  obtain ⟨a, ha⟩ : ∃ a, l.getLast? = some a := by
    cases l with
    | nil => cases h
    | cons x r => exact ⟨_, List.getLast?_eq_some_getLast (by simp)⟩
  obtain ⟨m, rfl⟩ := List.getLast?_eq_some_iff.mp ha
  rw [List.map_append, List.getD_eq_getElem?_getD, ← List.getLast?_eq_getElem?, ha]
  exact L2.atI_last _ _
theorem rd_rng3 {ta : TA} {σ : L2.St} {H : Hp} {R : It → Hp → Prop} (k : ta σ H fun vs H1 => ∃ (i j c : Int) (n : Nat), vs = [.int i, .int j, .int c] ∧ RgC i j c n ∧ R (Itc i c n) H1) : iRng3 ta σ H R := k
def spRing (K : PySem.W.Frag) : Sp := fun vs H Q _ => ∃ (t : Addr) (r : List Str) (s : Str), vs = [.ref t, .str s] ∧ SqT K H t (r.map V.str) ∧ 0 < r.length ∧ r.length < 64 ∧ NewD H (ringD s r) Q
theorem ok__ring_deeds {f : Addr} {fd : FuncData} (F : Fun K "_ring_deeds" "_ring_deeds" s_ring_deeds f fd) (B : Blt mg) (g_MOVE : ∃ t, mg "MOVE" = some (.str "move" t)) : FnOk P w K mg base CX0 1 f fd P_ring_deeds (spRing K) := by
  refine F.ok sc_ring_deeds (fun vs H Q E h => by obtain ⟨t, r, s, rfl, _⟩ := h; rfl) (fun cdv A outer s0 H vs Q E hr h => ?_)
  obtain ⟨t, r, s, rfl, ht, hr0, hr1, q⟩ := h
  have at_ : ∀ {j : Nat}, j < r.length → atI (r.map V.str) (j : Int) = some (.str (r.getD j "")) := fun {j} hj => atI_nat (by rw [List.getElem?_map, List.getElem?_eq_getElem hj, List.getD_eq_getElem?_getD, List.getElem?_eq_getElem hj]; rfl)
  refine ⟨_, pss_cons (ps_set (i := 2) sc_ring_deeds.nd rfl (Or.inl rfl) (pe_lst (pa_cons (pe_tup (pa_cons (pe_gstr (by rfl) g_MOVE) (pa_cons (pe_ix ix_tup (pv 0) (pe_un un_neg pe_int) (fun _ _ => rfl)) (pa_cons (pv 1) pa_nil)))) pa_nil)))
  (pss_cons (ps_for PassesOwn.never rfl (pi_range3 (by rfl) B.range (pa_cons (pe_op op_sub (pe_callB call_len_seq (by rfl) B.len (by decide +kernel) (pa_cons (pv 0) pa_nil)) pe_int) (pa_cons pe_int (pa_cons (pe_un un_neg pe_int) pa_nil)))) (pg_name (i := 3) sc_ring_deeds.nd rfl (Or.inl rfl))
   (pss_one (ps_expr (pe_bm PySem.F.plainAttrs_list PySem.F.slot_list_append PySem.F.type_list_append mt_append (pv 2) (pa_cons (pe_tup (pa_cons (pe_gstr (by rfl) g_MOVE) (pa_cons (pe_ix ix_tup (pv 0) (pe_op op_sub (pv 3) pe_int) (fun _ _ => rfl)) (pa_cons (pe_ix ix_tup (pv 0) (pv 3) (fun _ _ => rfl)) pa_nil)))) pa_nil)))))
  (pss_cons (ps_expr (pe_bm PySem.F.plainAttrs_list PySem.F.slot_list_append PySem.F.type_list_append mt_append (pv 2) (pa_cons (pe_tup (pa_cons (pe_gstr (by rfl) g_MOVE) (pa_cons (pv 1) (pa_cons (pe_ix ix_tup (pv 0) pe_int (fun _ _ => rfl)) pa_nil)))) pa_nil)))
  (pss_one (ps_ret (pv 2))))), ?_⟩
  have A := At.nil H
  walk_at "rd"
  refine rd_ixT ht (atI_end hr0) ?_
  walk_at "rd"
  refine ⟨szl, fun t1 ht1 => A.t2 (o := .tup ((mvD (r.getD (r.length - 1) "") s).map V.str)) ht1 fun H1 A1 => ?_⟩
  walk_at "rd"
  refine ⟨szl, fun pm hpm => A1.u1 hpm fun H2 A2 => ?_⟩
  walk_at "rd"
  have ht2 := A2.keep.sqt ht (by simp)
  refine rd_rng3 ?_
  walk_at "rd"
  refine ⟨t, _, rfl, .inr ht2, ?_⟩
  rw [List.length_map]
  walk_at "rd"
  refine ⟨_, _, _, _, rfl, RgC.neg (by omega) (by omega) (by decide) (by decide), ?_⟩
  have e0 : ((r.length : Int) - 1 - 0).toNat = r.length - 1 := by omega
  rw [e0]
  refine forI walk_rangeC (fun i σ H' => ∃ (rs : List (Addr × List Str)) (y3 : Option V), σ = [some (.ref t), some (.str s), some (.ref pm), y3] ∧ rs.map (·.2) = mvD (r.getD (r.length - 1) "") s :: (List.range i).map (stepR r) ∧
      At [] H H' [(pm, .lst (rs.map fun x => V.ref x.1))] (rs.map tR)) ⟨[(t1, mvD (r.getD (r.length - 1) "") s)], none, rfl, rfl, A2⟩ (fun _ _ _ _ _ => trivial) ?_ ?_
  · rintro i x σ H3 H3' hi ⟨rs, y3, rfl, hrs, A3⟩ ⟨rfl, rfl⟩
    have hrl := rs_len hrs
    rw [List.length_cons, List.length_map, List.length_range] at hrl
    have ht3 := A3.keep.sqt ht (by simp)
    have e1 : (r.length : Int) - 1 + (i : Int) * -1 = ((r.length - 1 - i : Nat) : Int) := by omega
    have e2 : (r.length : Int) - 1 + (i : Int) * -1 - 1 = ((r.length - 2 - i : Nat) : Int) := by omega
    walk_at "rd"
    refine ⟨.inl ⟨rfl, _, A3.lst 0 rfl⟩, ?_⟩
    walk_at "rd"
    refine rd_ixT ht3 (by rw [e2]; exact at_ (by omega)) ?_
    walk_at "rd"
    refine rd_ixT ht3 (by rw [e1]; exact at_ (by omega)) ?_
    walk_at "rd"
    refine ⟨szl, fun t2 ht2 => A3.t2 (o := .tup ((stepR r i).map V.str)) ht2 fun H4 A4 => ?_⟩
    refine ⟨pm, _, _, rfl, rfl, A4.get 0 rfl, by rw [List.length_map]; exact szn' (by omega), ?_⟩
    have A5 := A4.set 0 rfl (.lst ((rs.map fun x => V.ref x.1) ++ [.ref t2]))
    refine ⟨rs ++ [(t2, stepR r i)], _, rfl, ?_, ?_⟩
    · rw [List.map_append, hrs, List.range_succ, List.map_append]; rfl
    · rw [List.map_append, List.map_append]; exact A5
  · rintro σ H3 ⟨rs, y3, rfl, hrs, A3⟩
    have hrl := rs_len hrs
    rw [List.length_cons, List.length_map, List.length_range] at hrl
    have ht3 := A3.keep.sqt ht (by simp)
    walk_at "rd"
    refine ⟨.inl ⟨rfl, _, A3.lst 0 rfl⟩, ?_⟩
    walk_at "rd"
    refine rd_ixT ht3 (at_ (j := 0) hr0) ?_
    walk_at "rd"
    refine ⟨szl, fun t2 ht2 => A3.t2 (o := .tup ((mvD s (r.getD 0 "")).map V.str)) ht2 fun H4 A4 => ?_⟩
    refine ⟨pm, _, _, rfl, rfl, A4.get 0 rfl, by rw [List.length_map]; exact szn' (by omega), ?_⟩
    have A5 := A4.set 0 rfl (.lst ((rs.map fun x => V.ref x.1) ++ [.ref t2]))
    walk_at "rd"
    refine q _ pm (rs ++ [(t2, mvD s (r.getD 0 ""))]) ?_ (A5.new0 0 rfl (by simp)) (by rw [List.map_append]; exact A5.get 0 rfl) (fun x hx => ?_) A5.keep
    · rw [List.map_append, hrs]; rfl
    · rw [List.map_append] at hx; exact ⟨A5.tn x hx, A5.tm x hx⟩
end
end Nn

namespace Nn
open PySem PySem.Spec PyProof.Rows L2
local macro_rules | `(tactic| walk_at "rd1") => `(tactic| first
  | with_reducible refine' rd_c ?_
  | ((with_reducible refine' rd_var ?h ?_); (case h => rfl))
  | with_reducible refine' rd_op ?_
  | with_reducible refine' rd_I0 ?_
  | with_reducible refine' rd_seq ?_
  | ((with_reducible refine' rd_mod ?h ?_); (case h => decide))
  | ((with_reducible refine' rd_fdiv ?h ?_); (case h => exact ⟨by decide, by decide⟩))
  | ((with_reducible refine' rd_pow ?h ?_); (case h => exact ⟨by decide, by decide, by decide⟩))
  | ((with_reducible refine' rd_mul ?h ?_); (case h => first | exact Or.inl (by decide) | exact Or.inr (by decide)))
  | with_reducible refine' rd_set ?_
  | with_reducible refine' rd_asg ?_
  | with_reducible refine' rd_cons ?_
  | with_reducible refine' rd_nil ?_
  | with_reducible refine' rd_call ?_
  | with_reducible refine' rd_cb ?_
  | with_reducible refine' rd_if ?_
  | with_reducible refine' rd_test ?_
  | with_reducible refine' rd_B ?_
  | with_reducible refine' rd_bl ?_
  | ((with_reducible refine' rd_eq ?h ?_); (case h => rfl))
  | ((with_reducible refine' rd_ne ?h ?_); (case h => rfl))
  | with_reducible refine' rd_not ?_
  | with_reducible refine' rd_and ?_
  | with_reducible refine' rd_or ?_
  | with_reducible refine' rd_notV ?_
  | with_reducible refine' rd_chain ?_
  | with_reducible refine' rd_ret ?_
  | with_reducible refine' rd_drop ?_
  | with_reducible refine' rd_next' ?_
  | with_reducible refine' rd_lst ?_
  | with_reducible refine' rd_tup ?_
  | with_reducible refine' rd_lc ?_
  | with_reducible refine' rd_rng1 ?_
  | with_reducible refine' rd_istr ?_
  | with_reducible refine' rd_ilst ?_
  | with_reducible refine' rd_ienum ?_
  | with_reducible refine' rd_bm0 ?_
  | with_reducible refine' rd_bm ?_
  | with_reducible refine' rd_m1 ?_
  | with_reducible refine' rd_sl ?_
  | with_reducible refine' rd_po0 ?_
  | with_reducible refine' rd_po1 ?_
  | with_reducible refine' rd_in ?_
  | with_reducible refine' rd_sub ?_
  | with_reducible refine' rd_ifE ?_
  | with_reducible refine' rd_un ?_
  | with_reducible refine' rd_U ?_
  | with_reducible refine' rd_brk ?_
  | with_reducible refine' rd_cont ?_
  | with_reducible refine' rd_yes ?_
  | with_reducible refine' rd_T ?_
  | with_reducible refine' rd_F ?_
  | with_reducible refine' rd_nT ?_
  | with_reducible refine' rd_nF ?_
  | with_reducible refine' rd_dni ?_
  | with_reducible refine' rd_di ?_
  | with_reducible refine' rd_dget ?_
  | with_reducible refine' rd_dget1 ?_
  | with_reducible refine' rd_dget2 ?_
  | with_reducible refine' rd_dget2N ?_
  | with_reducible refine' rd_dpop1 ?_
  | with_reducible refine' rd_ddel ?_
  | with_reducible refine' rd_mkN ?_
  | with_reducible refine' rd_mkV ?_
  | with_reducible refine' rd_dput ?_
  | with_reducible refine' rd_dnew ?_
  | with_reducible refine' rd_ikeys ?_
  | with_reducible refine' rd_gn ?_
  | with_reducible refine' rd_for ?_
  | with_reducible refine' rd_make ?_
  | with_reducible refine' rd_meth ?_
  | with_reducible refine' rd_fld ?_
  | with_reducible refine' rd_sfld ?_
  | with_reducible refine' rd_dc ?_
  | with_reducible refine' rd_items ?_
  | with_reducible refine' rd_sadd ?_
  | with_reducible refine' rd_ivals ?_
  | with_reducible refine' rd_callS ?_
  | with_reducible refine' rd_makeS ?_
  | with_reducible refine' rd_methS ?_
  | with_reducible refine' rd_fldH ?_
  | with_reducible refine' rd_mkO ?_)
local macro_rules | `(tactic| walk_at "sub") => `(tactic| repeat' (first | exact List.nil_sublist _ | exact List.Sublist.refl _ | apply List.Sublist.cons₂ | apply List.Sublist.cons))
local macro_rules | `(tactic| walk_at "rd") => `(tactic| repeat walk_at "rd1")

theorem upAt_len (lv : List (Str × Option Str)) (z : Str) : (upAt (toOf lv) z).length ≤ lv.length + 1 := by
  unfold upAt
  split
  · rename_i h
    exact upAll_len (Exists.choose_spec h).toUpRun
  · exact Nat.zero_le _
theorem chainE_len (lv : List (Str × Option Str)) (e : Str × Option Str) : (chainE lv e).length ≤ lv.length + 2 := by
  unfold chainE
  split
  · have := upM_len (upAt (toOf lv) e.1)
    have := upAt_len lv e.1
    rw [List.length_cons]; omega
  · split
    · exact Nat.zero_le _
    · rename_i n _ _
      have := upM_len (upAt (toOf lv) n)
      have := upAt_len lv n
      omega
theorem flat_len {α β : Type} {g : α → List β} {m : Nat} : ∀ {l : List α}, (∀ x ∈ l, (g x).length ≤ m) → (l.flatMap g).length ≤ l.length * m
  | [], _ => Nat.zero_le _
  | x :: l, h => by
    rw [List.flatMap_cons, List.length_append, List.length_cons, Nat.succ_mul]
    have h1 := h x List.mem_cons_self
    have h2 := flat_len (g := g) (m := m) (l := l) fun y hy => h y (List.mem_cons_of_mem _ hy)
    omega
theorem tR_ne {H : Hp} {p : Addr} {xs : List V} {rs : List (Addr × List Str)} (hp : H p = some (.lst xs)) (h : ∀ x ∈ rs.map tR, H x.1 = some x.2) : ∀ x ∈ rs.map tR, x.1 ≠ p := by
  intro x hx e
  have h1 := h x hx
  obtain ⟨y, hy, rfl⟩ := List.mem_map.mp hx
  rw [e, hp] at h1
  cases h1
theorem cmr_take {lv : List (Str × Option Str)} {i : Nat} {e : Str × Option Str} (h : lv[i]? = some e) : cmr (lv.take (i + 1)) = cmr (lv.take i) ++ (e.2.map fun n => (n, V.str e.1)).toList := by
  unfold cmr
  rw [List.take_add_one, h, List.filterMap_append]
  cases e2 : e.2 <;> simp [e2]
section
variable {P : Program} {w : World} {K : PySem.W.Frag} {mg : Str → Option Value} {base : Heap}
structure MChain (P : Program) (w : World) (K : PySem.W.Frag) (mg : Str → Option Value) (base : Heap) (Cp : Addr) : Prop where
  Plan_olds : Mt P w K mg base 1 Cp "olds" (spOldsM Cp)
  Plan_pairs : Mt P w K mg base 1 Cp "pairs" (spPairsM Cp)
structure CChain (P : Program) (w : World) (K : PySem.W.Frag) (mg : Str → Option Value) (base : Heap) : Prop where
  _moves_up : Cl P w K mg base 1 "_moves_up" spUp
def spChain (C : Addr) : Sp := fun vs H Q _ => ∃ (pl : Addr) (lv : List (Str × Option Str)), vs = [.ref pl] ∧ PlanAt C H pl lv ∧ Good lv ∧ NewD H (chainF lv) Q
theorem ok__chain_deeds {f : Addr} {fd : FuncData} (F : Fun K "_chain_deeds" "_chain_deeds" s_chain_deeds f fd) (B : Blt mg) (g_DROP : ∃ t, mg "DROP" = some (.str "drop" t)) {Cp : Addr} (C : CChain P w K mg base) (M : MChain P w K mg base Cp) : FnOk P w K mg base CX0 2 f fd P_chain_deeds (spChain Cp) := by
  refine F.ok sc_chain_deeds (fun vs H Q E h => by obtain ⟨pl, lv, rfl, _⟩ := h; rfl) (fun cdv A outer s0 H vs Q E hr h => ?_)
  obtain ⟨pl, lv, rfl, hP, hg, q⟩ := h
  have hgl := hg.len
  refine ⟨_, pss_cons (ps_set (i := 1) sc_chain_deeds.nd rfl (Or.inl rfl) (pe_callTy (cr_setS rfl) (by rfl) B.set (by decide +kernel) (pa_cons (pe_me0 M.Plan_olds hr (by omega) (pv 0)) pa_nil)))
  (pss_cons (ps_setDc (i := 2) (own := [("old", 4), ("new", 5)]) rfl sc_chain_deeds.nd rfl rfl (sw_trueD rfl rfl rfl (by decide +kernel)) (pi_list (pe_me0 M.Plan_pairs hr (by omega) (pv 0))) (blkOk_by (N := N_chain_deeds) (sc := defScope s_chain_deeds) (by decide +kernel)) (fun _ _ _ _ _ => (pg_tup' (n := 2) (K := K) rfl rfl (pgs_cons (pg_name (i := 4) sc_chain_deeds.nd rfl (Or.inl rfl)) (pgs_cons (pg_name (i := 5) sc_chain_deeds.nd rfl (Or.inl rfl)) pgs_nil)))) (fun _ _ _ _ _ => pts_one (pt_cmpR op_notN (pv 5) pe_non (nomark _))) (fun _ _ _ _ _ => (pv 5)) (fun _ _ _ _ _ => (pv 4)))
  (pss_cons (ps_set (i := 3) sc_chain_deeds.nd rfl (Or.inl rfl) (pe_lst pa_nil))
  (pss_cons (ps_for PassesOwn.never rfl (pi_list (pe_me0 M.Plan_pairs hr (by omega) (pv 0))) (pg_tup rfl (pgs_cons (pg_name (i := 4) sc_chain_deeds.nd rfl (Or.inl rfl)) (pgs_cons (pg_name (i := 5) sc_chain_deeds.nd rfl (Or.inl rfl)) pgs_nil)))
   (pss_one (ps_if (pt_cmpR op_isN (pv 5) pe_non (nomark _)) (pss_cons (ps_expr (pe_bm PySem.F.plainAttrs_list PySem.F.slot_list_append PySem.F.type_list_append mt_append (pv 3) (pa_cons (pe_tup (pa_cons (pe_gstr (by rfl) g_DROP) (pa_cons (pv 4) pa_nil))) pa_nil)))
  (pss_one (ps_expr (pe_bm PySem.F.plainAttrs_list PySem.F.slot_list_extend PySem.F.type_list_extend mt_extend (pv 3) (pa_cons (pe_cl C._moves_up hr (by omega) (by rfl) (pa_cons (pv 4) (pa_cons (pv 2) pa_nil))) pa_nil)))))
   (pss_one (ps_if (pt_cmpR or_snotinK (pv 5) (pv 1) (by rfl)) (pss_one (ps_expr (pe_bm PySem.F.plainAttrs_list PySem.F.slot_list_extend PySem.F.type_list_extend mt_extend (pv 3) (pa_cons (pe_cl C._moves_up hr (by omega) (by rfl) (pa_cons (pv 5) (pa_cons (pv 2) pa_nil))) pa_nil))))
   (pss_nil))))))
  (pss_one (ps_ret (pv 3)))))), ?_⟩
  have A := At.nil H
  obtain ⟨dx, d, h1, h2⟩ := hP
  walk_at "rd"
  refine ⟨pl, dx, _, rfl, h1, rfl, ?_⟩
  walk_at "rd"
  refine ⟨pl, lv, rfl, ⟨dx, d, h1, h2⟩, fun H1 po hpo hpo' k1 => ?_⟩
  have A1 := A.add (A.c0 k1) rfl hpo hpo'
  refine ⟨po, _, rfl, A1.lst 0 rfl, by rw [List.length_map]; omega, fun ps c hps hc => A1.u1 hps fun H2 A2 => ?_⟩
  have P2 : PlanAt Cp H2 pl lv := plan_kp ⟨dx, d, h1, h2⟩ A2.keep
  obtain ⟨dx2, d2, h12, h22⟩ := P2
  walk_at "rd"
  refine ⟨pl, dx2, _, rfl, h12, rfl, ?_⟩
  walk_at "rd"
  refine ⟨pl, lv, rfl, ⟨dx2, d2, h12, h22⟩, fun H3 pb tf htf hpb hpb' hN3 k3 => ?_⟩
  have A3 := A2.addB k3 hpb hpb' (tf.map tP) hN3 (tP_ne hpb' fun x hx => (hN3 x hx).2)
  have htfl : tf.length = lv.length := by rw [← htf, List.length_map]
  refine ⟨pb, rfl, ⟨_, A3.lst 2 rfl⟩, fun D hD => ?_⟩
  refine dc_it (walk_list (xs := tf.map fun x => V.ref x.1)) (fun i H' => At [] H H' [(po, .lst ((lv.map (·.1)).map V.str)), (ps, SetK P w ps (inL (lv.map (·.1))) c), (pb, .lst (tf.map fun x => V.ref x.1)), (D, .dK (dk (cmr (lv.take i))))] ([] ++ tf.map tP))
    (A3.snoc hD _) (fun i H' _ A => A.lst 2 rfl) ?_ ?_
  · rintro i x H4 H4' hi A4 ⟨rfl, hx⟩
    have hi' : i < tf.length := by rw [List.length_map] at hi; exact hi
    have ex : x = .ref tf[i].1 := by
      rw [List.getElem?_map, List.getElem?_eq_getElem hi'] at hx
      exact (Option.some.inj hx).symm
    subst ex
    have tm := A4.tm _ (List.mem_append_right _ (List.mem_map_of_mem (f := tP) (List.getElem_mem hi')))
    have e2 : lv[i]? = some tf[i].2 := by rw [← htf, List.getElem?_map, List.getElem?_eq_getElem hi']; rfl
    have ct := cmr_take e2
    refine ⟨tf[i].1, _, rfl, .inl (.inl tm), rfl, _, _, rfl, _, _, rfl, rfl, rfl, ?_⟩
    walk_at "rd"
    cases hn : tf[i].2.2 with
    | none =>
      rw [hn] at ct
      refine ⟨rfl, rd_bl ?_⟩
      refine rd_F ?_
      rw [ct, Option.map_none, Option.toList_none, List.append_nil]
      exact A4
    | some n =>
      rw [hn] at ct
      refine ⟨rfl, rd_bl ?_⟩
      refine rd_T ?_
      walk_at "rd"
      have hfr : n ∉ (cmr (lv.take i)).map (·.1) := by
        rw [cmr_keys]
        intro hm
        obtain ⟨e, he, ee⟩ := List.mem_filterMap.mp hm
        obtain ⟨j, hj⟩ := List.getElem?_of_mem he
        have hjl := (List.getElem?_eq_some_iff.mp hj).1
        rw [List.length_take] at hjl
        rw [List.getElem?_take_of_lt (by omega)] at hj
        have e3 : tf[i].2 = (tf[i].2.1, some n) := by rw [← hn]
        have e4 : e = (e.1, some n) := by rw [← ee]
        have k1 : (e.1, some n) ∈ lv := e4 ▸ List.mem_of_getElem? hj
        have k2 : (tf[i].2.1, some n) ∈ lv := e3 ▸ List.mem_of_getElem? e2
        have k3 := news_inj hg.newsNd k1 k2
        have k4 : e = tf[i].2 := by rw [e4, e3, k3]
        rw [k4] at hj
        have nl : lv.Nodup := List.Pairwise.of_map (S := fun a b => a ≠ b) (fun x : Str × Option Str => x.1) (fun a b h e => h (by rw [e])) hg.oldsNd
        have := nd_ix nl hj e2
        omega
      refine ⟨_, .inr n, rfl, A4.get 3 rfl, ?_, ?_⟩
      · have := List.length_filterMap_le (fun e : Str × Option Str => e.2.map fun n => (n, V.str e.1)) (lv.take i)
        rw [List.length_take] at this
        unfold dk
        rw [List.length_map]
        exact szn' (by unfold cmr; omega)
      · rw [putK_new_dk _ hfr, ct]
        exact A4.set 3 rfl _
  · intro H4 A4
    rw [List.length_map, htfl, List.take_length] at A4
    walk_at "rd"
    refine ⟨szl, fun pm hpm => A4.u1 hpm fun H5 A5 => ?_⟩
    obtain ⟨dx5, d5, h15, h25⟩ : PlanAt Cp H5 pl lv := plan_kp ⟨dx, d, h1, h2⟩ A5.keep
    walk_at "rd"
    refine ⟨pl, dx5, _, rfl, h15, rfl, ?_⟩
    walk_at "rd"
    refine ⟨pl, lv, rfl, ⟨dx5, d5, h15, h25⟩, fun H6 pc tg htg hpc hpc' hN6 k6 => ?_⟩
    have A6 := A5.addB k6 hpc hpc' (tg.map tP) hN6 (tP_ne hpc' fun x hx => (hN6 x hx).2)
    have htgl : tg.length = lv.length := by rw [← htg, List.length_map]
    have A7 := (A6.sel (L' := [(ps, SetK P w ps (inL (lv.map (·.1))) c), (D, .dK (dk (cmr lv))), (pm, .lst []), (pc, .lst (tg.map fun x => V.ref x.1))]) (by simp) (by walk_at "sub")).selT (tg.map tP) (fun x hx => List.mem_append_right _ hx)
    clear A6 A5 A4 A3 A2 A1
    walk_at "rd"
    refine ⟨pc, rfl, ⟨_, A7.lst 3 rfl⟩, ?_⟩
    refine forI (walk_list (xs := tg.map fun x => V.ref x.1)) (fun i σ H' => ∃ (rs : List (Addr × List Str)) (y4 y5 : Option V), σ = [some (.ref pl), some (.ref ps), some (.ref D), some (.ref pm), y4, y5] ∧ rs.map (·.2) = (lv.take i).flatMap (chainE lv) ∧
        At [] H H' [(ps, SetK P w ps (inL (lv.map (·.1))) c), (D, .dK (dk (cmr lv))), (pm, .lst (rs.map fun x => V.ref x.1)), (pc, .lst (tg.map fun x => V.ref x.1))] (tg.map tP ++ rs.map tR))
      ⟨[], _, _, rfl, rfl, by rw [List.map_nil, List.map_nil, List.append_nil]; exact A7⟩ (fun i σ H' _ ⟨_, _, _, _, _, A⟩ => A.lst 3 rfl) ?_ ?_
    · rintro i x σ H8 H8' hi ⟨rs, y4, y5, rfl, hrs, A8⟩ ⟨rfl, hx⟩
      have hi' : i < tg.length := by rw [List.length_map] at hi; exact hi
      have ex : x = .ref tg[i].1 := by
        rw [List.getElem?_map, List.getElem?_eq_getElem hi'] at hx
        exact (Option.some.inj hx).symm
      subst ex
      have tm := A8.tm _ (List.mem_append_left _ (List.mem_map_of_mem (f := tP) (List.getElem_mem hi')))
      have e2 : lv[i]? = some tg[i].2 := by rw [← htg, List.getElem?_map, List.getElem?_eq_getElem hi']; rfl
      have hme : tg[i].2 ∈ lv := List.mem_of_getElem? e2
      have hto := toOf_mem hg.oldsNd hme
      have et : (lv.take (i + 1)).flatMap (chainE lv) = (lv.take i).flatMap (chainE lv) ++ chainE lv tg[i].2 := by
        rw [List.take_add_one, e2, List.flatMap_append]
        show _ ++ List.flatMap (chainE lv) [tg[i].2] = _
        rw [List.flatMap_cons, List.flatMap_nil, List.append_nil]
      have hrl := rs_len hrs
      have hfl := flat_len (g := chainE lv) (m := 66) (l := lv.take i) fun y _ => by have := chainE_len lv y; omega
      have hfl2 : (lv.take i).length ≤ 64 := by rw [List.length_take]; omega
      have hr1 : rs.length ≤ 64 * 66 := by rw [hrl]; exact Nat.le_trans hfl (Nat.mul_le_mul_right _ hfl2)
      have hce := chainE_len lv tg[i].2
      refine ⟨tg[i].1, _, rfl, .inl (.inl tm), rfl, _, _, rfl, _, _, rfl, rfl, ?_⟩
      walk_at "rd"
      have fin : ∀ {H9 : Hp} {ds : List (Addr × List Str)} {b : Addr} {zs : List (Addr × List Str)} {y4 y5 : Option V}, At [] H H9 [(ps, SetK P w ps (inL (lv.map (·.1))) c), (D, .dK (dk (cmr lv))), (pm, .lst (ds.map fun x => V.ref x.1)), (pc, .lst (tg.map fun x => V.ref x.1)), (b, .lst (zs.map fun x => V.ref x.1))] ((tg.map tP ++ ds.map tR) ++ zs.map tR) →
          ds.map (·.2) ++ zs.map (·.2) = (lv.take (i + 1)).flatMap (chainE lv) → ds.length ≤ 5000 → zs.length ≤ 100 → rExtend (.ref pm) [.ref b] H9 fun _ H' => ∃ (rs : List (Addr × List Str)) (z4 z5 : Option V), [some (V.ref pl), some (.ref ps), some (.ref D), some (.ref pm), y4, y5] = [some (.ref pl), some (.ref ps), some (.ref D), some (.ref pm), z4, z5] ∧ rs.map (·.2) = (lv.take (i + 1)).flatMap (chainE lv) ∧
            At [] H H' [(ps, SetK P w ps (inL (lv.map (·.1))) c), (D, .dK (dk (cmr lv))), (pm, .lst (rs.map fun x => V.ref x.1)), (pc, .lst (tg.map fun x => V.ref x.1))] (tg.map tP ++ rs.map tR) := by
        intro H9 ds b zs y4 y5 A9 e l1 l2
        refine ⟨pm, b, _, _, rfl, rfl, A9.get 2 rfl, A9.get 4 rfl, szn (by simp only [List.length_map]; omega), ?_⟩
        have A10 := A9.set 2 rfl (.lst ((ds.map fun x => V.ref x.1) ++ (zs.map fun x => V.ref x.1)))
        refine ⟨ds ++ zs, _, _, rfl, by rw [List.map_append]; exact e, ?_⟩
        rw [List.map_append, List.map_append, ← List.append_assoc]
        exact A10.sel (L' := [(ps, SetK P w ps (inL (lv.map (·.1))) c), (D, .dK (dk (cmr lv))), (pm, .lst ((ds.map fun x => V.ref x.1) ++ (zs.map fun x => V.ref x.1))), (pc, .lst (tg.map fun x => V.ref x.1))]) (by simp) (by walk_at "sub")
      unfold chainE at et
      cases hn : tg[i].2.2 with
      | none =>
        rw [hn] at et hto
        have et : (lv.take (i + 1)).flatMap (chainE lv) = (lv.take i).flatMap (chainE lv) ++ (drD tg[i].2.1 :: upM (upAt (toOf lv) tg[i].2.1)) := et
        refine ⟨rfl, rd_bl ?_⟩
        refine rd_T ?_
        walk_at "rd"
        refine ⟨.inl ⟨rfl, _, A8.lst 2 rfl⟩, ?_⟩
        walk_at "rd"
        refine ⟨szl, fun t ht => A8.t2 (o := .tup ((drD tg[i].2.1).map V.str)) ht fun H9 A9 => ?_⟩
        refine ⟨pm, _, _, rfl, rfl, A9.get 2 rfl, by rw [List.length_map]; exact szn' (by omega), ?_⟩
        have A10 := A9.set 2 rfl (.lst ((rs.map fun x => V.ref x.1) ++ [.ref t]))
        revert A10
        generalize upd H9 pm (.lst ((rs.map fun x => V.ref x.1) ++ [.ref t])) = H10
        intro A10
        walk_at "rd"
        refine ⟨.inl ⟨rfl, _, A10.lst 2 rfl⟩, ?_⟩
        walk_at "rd"
        refine ⟨tg[i].2.1, D, lv, rfl, A10.get 1 rfl, hg, hto, fun H11 p2 rs2 hrs2 hp2 hp2' hN k11 => ?_⟩
        have A11 := A10.addB k11 hp2 hp2' (rs2.map tR) hN (tR_ne hp2' fun x hx => (hN x hx).2)
        have hu := upM_len (upAt (toOf lv) tg[i].2.1)
        have hu2 := upAt_len lv tg[i].2.1
        have hr2 := rs_len hrs2
        refine fin (ds := rs ++ [(t, drD tg[i].2.1)]) (zs := rs2) (by rw [List.map_append, List.map_append, ← List.append_assoc]; exact A11) ?_ (by rw [List.length_append]; show rs.length + 1 ≤ _; omega) (by omega)
        rw [et, List.map_append, hrs, hrs2, List.append_assoc]; rfl
      | some n =>
        rw [hn] at et hto
        have et : (lv.take (i + 1)).flatMap (chainE lv) = (lv.take i).flatMap (chainE lv) ++ (if n ∈ lv.map (·.1) then [] else upM (upAt (toOf lv) n)) := et
        refine ⟨rfl, rd_bl ?_⟩
        refine rd_F ?_
        walk_at "rd"
        refine ⟨.inr n, ps, _, _, rfl, rfl, A8.get 0 rfl, rd_bl ?_⟩
        show if (!decide (n ∈ lv.map (·.1))) = true then _ else _
        refine rd_iteN (fun hno => ?_) (fun hyes => ?_)
        · rw [if_neg hno] at et
          walk_at "rd"
          refine ⟨.inl ⟨rfl, _, A8.lst 2 rfl⟩, ?_⟩
          walk_at "rd"
          refine ⟨n, D, lv, rfl, A8.get 1 rfl, hg, (toOf_none hno).2, fun H11 p2 rs2 hrs2 hp2 hp2' hN k11 => ?_⟩
          have A11 := A8.addB k11 hp2 hp2' (rs2.map tR) hN (tR_ne hp2' fun x hx => (hN x hx).2)
          have hu := upM_len (upAt (toOf lv) n)
          have hu2 := upAt_len lv n
          have hr2 := rs_len hrs2
          refine fin (ds := rs) (zs := rs2) A11 ?_ (by omega) (by omega)
          rw [et, hrs, hrs2]
        · rw [if_pos hyes, List.append_nil] at et
          walk_at "rd"
          exact ⟨rs, _, _, rfl, by rw [et]; exact hrs, A8⟩
    · rintro σ H8 ⟨rs, y4, y5, rfl, hrs, A8⟩
      rw [List.length_map, htgl, List.take_length] at hrs
      walk_at "rd"
      refine q _ pm rs hrs (A8.new0 2 rfl (by simp)) (A8.get 2 rfl) (fun x hx => ?_) A8.keep
      have := List.mem_append_right (tg.map tP) hx
      exact ⟨A8.tn x this, A8.tm x this⟩
end
end Nn

namespace Nn
open PySem PySem.Spec PyProof.Rows L2
local macro_rules | `(tactic| walk_at "rd1") => `(tactic| first
  | with_reducible refine' rd_c ?_
  | ((with_reducible refine' rd_var ?h ?_); (case h => rfl))
  | with_reducible refine' rd_op ?_
  | with_reducible refine' rd_I0 ?_
  | with_reducible refine' rd_seq ?_
  | ((with_reducible refine' rd_mod ?h ?_); (case h => decide))
  | ((with_reducible refine' rd_fdiv ?h ?_); (case h => exact ⟨by decide, by decide⟩))
  | ((with_reducible refine' rd_pow ?h ?_); (case h => exact ⟨by decide, by decide, by decide⟩))
  | ((with_reducible refine' rd_mul ?h ?_); (case h => first | exact Or.inl (by decide) | exact Or.inr (by decide)))
  | with_reducible refine' rd_set ?_
  | with_reducible refine' rd_asg ?_
  | with_reducible refine' rd_cons ?_
  | with_reducible refine' rd_nil ?_
  | with_reducible refine' rd_call ?_
  | with_reducible refine' rd_cb ?_
  | with_reducible refine' rd_if ?_
  | with_reducible refine' rd_test ?_
  | with_reducible refine' rd_B ?_
  | with_reducible refine' rd_bl ?_
  | ((with_reducible refine' rd_eq ?h ?_); (case h => rfl))
  | ((with_reducible refine' rd_ne ?h ?_); (case h => rfl))
  | with_reducible refine' rd_not ?_
  | with_reducible refine' rd_and ?_
  | with_reducible refine' rd_or ?_
  | with_reducible refine' rd_notV ?_
  | with_reducible refine' rd_chain ?_
  | with_reducible refine' rd_ret ?_
  | with_reducible refine' rd_drop ?_
  | with_reducible refine' rd_next' ?_
  | with_reducible refine' rd_lst ?_
  | with_reducible refine' rd_tup ?_
  | with_reducible refine' rd_lc ?_
  | with_reducible refine' rd_rng1 ?_
  | with_reducible refine' rd_istr ?_
  | with_reducible refine' rd_ilst ?_
  | with_reducible refine' rd_ienum ?_
  | with_reducible refine' rd_bm0 ?_
  | with_reducible refine' rd_bm ?_
  | with_reducible refine' rd_m1 ?_
  | with_reducible refine' rd_sl ?_
  | with_reducible refine' rd_po0 ?_
  | with_reducible refine' rd_po1 ?_
  | with_reducible refine' rd_in ?_
  | with_reducible refine' rd_sub ?_
  | with_reducible refine' rd_ifE ?_
  | with_reducible refine' rd_un ?_
  | with_reducible refine' rd_U ?_
  | with_reducible refine' rd_brk ?_
  | with_reducible refine' rd_cont ?_
  | with_reducible refine' rd_yes ?_
  | with_reducible refine' rd_T ?_
  | with_reducible refine' rd_F ?_
  | with_reducible refine' rd_nT ?_
  | with_reducible refine' rd_nF ?_
  | with_reducible refine' rd_dni ?_
  | with_reducible refine' rd_di ?_
  | with_reducible refine' rd_dget ?_
  | with_reducible refine' rd_dget1 ?_
  | with_reducible refine' rd_dget2 ?_
  | with_reducible refine' rd_dget2N ?_
  | with_reducible refine' rd_dpop1 ?_
  | with_reducible refine' rd_ddel ?_
  | with_reducible refine' rd_mkN ?_
  | with_reducible refine' rd_mkV ?_
  | with_reducible refine' rd_dput ?_
  | with_reducible refine' rd_dnew ?_
  | with_reducible refine' rd_ikeys ?_
  | with_reducible refine' rd_gn ?_
  | with_reducible refine' rd_for ?_
  | with_reducible refine' rd_make ?_
  | with_reducible refine' rd_meth ?_
  | with_reducible refine' rd_fld ?_
  | with_reducible refine' rd_sfld ?_
  | with_reducible refine' rd_dc ?_
  | with_reducible refine' rd_items ?_
  | with_reducible refine' rd_sadd ?_
  | with_reducible refine' rd_ivals ?_
  | with_reducible refine' rd_callS ?_
  | with_reducible refine' rd_makeS ?_
  | with_reducible refine' rd_methS ?_
  | with_reducible refine' rd_fldH ?_
  | with_reducible refine' rd_mkO ?_)
local macro_rules | `(tactic| walk_at "sub") => `(tactic| repeat' (first | exact List.nil_sublist _ | exact List.Sublist.refl _ | apply List.Sublist.cons₂ | apply List.Sublist.cons))
local macro_rules | `(tactic| walk_at "rd") => `(tactic| repeat walk_at "rd1")

/-! ### whether a plan fits -/
/-- what is in the way of a plan: lost, an old name that isn't held; taken, a new one that isn't free -/
def lostP (nm : List Str) (z : Str) : Bool := !decide (z ∈ nm)
def takenP (os nm : List Str) (z : Str) : Bool := decide (z ∈ nm) && !decide (z ∈ os)
def fitF (os nl nm : List Str) : Option Flt := match os.find? (lostP nm) with
  | some z => some (.missing z)
  | none => match nl.find? (takenP os nm) with
    | some z => some (.held z)
    | none => none
section
variable {P : Program} {w : World} {K : PySem.W.Frag} {mg : Str → Option Value} {base : Heap}
structure MFits (P : Program) (w : World) (K : PySem.W.Frag) (mg : Str → Option Value) (base : Heap) (Cp : Addr) : Prop where
  Plan_olds : Mt P w K mg base 1 Cp "olds" (spOldsM Cp)
  Plan_news : Mt P w K mg base 1 Cp "news" (spNewsM Cp)
structure RFits (P : Program) (w : World) (K : PySem.W.Frag) (mg : Str → Option Value) (base : Heap) (Cs : ErrCs) : Prop where
  Missing : ErrMk P w K mg base 1 "Missing" Cs.missing "name" okT
  Held : ErrMk P w K mg base 1 "Held" Cs.held "name" okT
/-- a plan at pl, names held in a list at a -/
structure PN (K : PySem.W.Frag) (C : Addr) (H : Hp) (pl a : Addr) (lv : List (Str × Option Str)) (nl nm : List Str) : Prop where
  hpl : PlanAt C H pl lv
  hnm : SqL K H a (nm.map V.str)
  good : Good lv
  len : nm.length + lv.length < 64
  pnl : nl.Perm (lv.filterMap (·.2))
  snl : sortedS nl = true
theorem sql_kp {H H' : Hp} {a : Addr} {xs : List V} (h : SqL K H a xs) (k : Kp [] H H') : SqL K H' a xs := k.seq h (by simp)
theorem PN.kp {C : Addr} {H H' : Hp} {pl a : Addr} {lv : List (Str × Option Str)} {nl nm : List Str} (h : PN K C H pl a lv nl nm) (k : Kp [] H H') : PN K C H' pl a lv nl nm :=
  ⟨plan_kp h.hpl k, sql_kp h.hnm k, h.good, h.len, h.pnl, h.snl⟩
def spFits (K : PySem.W.Frag) (C : Addr) (Cs : ErrCs) : Sp := fun vs H Q E => ∃ (pl a : Addr) (lv : List (Str × Option Str)) (nl nm : List Str), vs = [.ref pl, .ref a] ∧ PN K C H pl a lv nl nm ∧
  (∀ x, fitF (lv.map (·.1)) nl nm = some x → Thrown Cs [] H E x) ∧ (fitF (lv.map (·.1)) nl nm = none → ∀ H', Kp [] H H' → Q .non H')
theorem find_take {p : Str → Bool} {l : List Str} {i : Nat} {x : Str} (hx : l[i]? = some x) (h : (l.take i).find? p = none) : l.find? p = if p x = true then some x else (l.drop (i + 1)).find? p := by
  have hi := (List.getElem?_eq_some_iff.mp hx).1
  have e : l = l.take i ++ (x :: l.drop (i + 1)) := by
    obtain ⟨_, rfl⟩ := List.getElem?_eq_some_iff.mp hx
    rw [List.getElem_cons_drop hi, List.take_append_drop]
  conv => lhs; rw [e, List.find?_append, h]
  rw [List.find?_cons]
  cases p x <;> rfl
theorem find_take_none {p : Str → Bool} {l : List Str} {i : Nat} {x : Str} (hx : l[i]? = some x) (h : (l.take i).find? p = none) (hp : p x = false) : (l.take (i + 1)).find? p = none := by
  rw [List.take_add_one, hx, List.find?_append, h]
  simp [hp]
theorem ok_fits {f : Addr} {fd : FuncData} (F : Fun K "fits" "fits" sfits f fd) (B : Blt mg) {Cp : Addr} {Cs : ErrCs} (M : MFits P w K mg base Cp) (R : RFits P w K mg base Cs) : FnOk P w K mg base (L2.CX P w) 3 f fd Pfits (spFits K Cp Cs) := by
  refine F.okX scfits (fun vs H Q E h => by obtain ⟨pl, a, lv, nl, nm, rfl, _⟩ := h; rfl) (fun cdv A outer s0 H vs Q E hr h => ?_)
  obtain ⟨pl, a, lv, nl, nm, rfl, hP, th, q⟩ := h
  refine ⟨_, pss_cons (ps_set (i := 2) scfits.nd rfl (Or.inl rfl) (pe_callTy (cr_setS rfl) (by rfl) B.set (by decide +kernel) (pa_cons (pv 1) pa_nil)))
  (pss_cons (ps_for (passes_of rfl) rfl (pi_list (pe_me0 M.Plan_olds hr (by omega) (pv 0))) (pg_name (i := 3) scfits.nd rfl (Or.inl rfl))
   (pss_one (ps_if (pt_cmpR or_snotinK (pv 3) (pv 2) (by rfl)) (pss_one (ps_raise rfl (takes_of rfl rfl rfl rfl) (pmk_err R.Missing hr (by omega) (by rfl) (pv 3))))
   (pss_nil))))
  (pss_cons (ps_set (i := 4) scfits.nd rfl (Or.inl rfl) (pe_callTy (cr_setS rfl) (by rfl) B.set (by decide +kernel) (pa_cons (pe_me0 M.Plan_olds hr (by omega) (pv 0)) pa_nil)))
  (pss_one (ps_for (passes_of rfl) rfl (pi_list (pe_me0 M.Plan_news hr (by omega) (pv 0))) (pg_name (i := 5) scfits.nd rfl (Or.inl rfl))
   (pss_one (ps_if (PW.pt (pw_and (pt_cmpR or_sinK (pv 5) (pv 2) (by rfl)) (pw_and1 (pt_cmpR or_snotinK (pv 5) (pv 4) (by rfl))))) (pss_one (ps_raise rfl (takes_of rfl rfl rfl rfl) (pmk_err R.Held hr (by omega) (by rfl) (pv 5))))
   (pss_nil))))))), ?_⟩
  have A := At.nil H
  have hg := hP.good
  have hlen := hP.len
  have hshort : ∀ z ∈ lv.map (·.1), z.length ≤ 8 := fun z hz => by
    obtain ⟨e, he, rfl⟩ := List.mem_map.mp hz
    exact (nameOk_len (hg.old e he)).2
  have hshortN : ∀ z ∈ nl, z.length ≤ 8 := fun z hz => by
    obtain ⟨e, he, ez⟩ := List.mem_filterMap.mp (hP.pnl.mem_iff.mp hz)
    exact (nameOk_len (hg.new e he z ez)).2
  walk_at "rd"
  refine ⟨a, nm, rfl, hP.hnm, by omega, fun p c hp hc => A.u1 hp fun H1 A1 => ?_⟩
  have P1 := hP.kp A1.keep
  obtain ⟨dx, d, h1, h2⟩ := P1.hpl
  walk_at "rd"
  refine ⟨pl, dx, _, rfl, h1, rfl, ?_⟩
  walk_at "rd"
  refine ⟨pl, lv, rfl, P1.hpl, fun H2 po hpo hpo' k2 => ?_⟩
  have A2 := A1.add (A1.c0 k2) rfl hpo hpo'
  refine ⟨po, rfl, ⟨_, A2.lst 1 rfl⟩, ?_⟩
  have hol : (lv.map (·.1)).length < 64 := by rw [List.length_map]; omega
  refine forI (walk_list (xs := (lv.map (·.1)).map V.str)) (fun i σ H' => ∃ (y3 y4 y5 : Option V), σ = [some (.ref pl), some (.ref a), some (.ref p), y3, y4, y5] ∧ ((lv.map (·.1)).take i).find? (lostP nm) = none ∧
      At [] H H' [(p, SetK P w p (inL nm) c), (po, .lst ((lv.map fun e : Str × Option Str => e.1).map V.str))] [])
    ⟨_, _, _, rfl, by simp, A2⟩ (fun i σ H' _ ⟨_, _, _, _, _, A⟩ => A.lst 1 rfl) ?_ ?_
  · rintro i x σ H3 H3' hi ⟨y3, y4, y5, rfl, hF, A3⟩ ⟨rfl, hx⟩
    obtain ⟨z, hz, rfl⟩ : ∃ z, (lv.map (·.1))[i]? = some z ∧ x = .str z := by
      rw [List.getElem?_map] at hx
      obtain ⟨z, hz, e⟩ := Option.map_eq_some_iff.mp hx
      exact ⟨z, hz, e.symm⟩
    walk_at "rd"
    refine ⟨.inr z, p, _, _, rfl, rfl, A3.get 0 rfl, rd_bl ?_⟩
    show if (!decide (z ∈ nm)) = true then _ else _
    refine rd_iteN (fun hno => ?_) (fun hyes => ?_)
    · walk_at "rd"
      have hf : fitF (lv.map (·.1)) nl nm = some (.missing z) := by
        unfold fitF
        rw [find_take hz hF, if_pos (by unfold lostP; rw [decide_eq_false hno]; rfl)]
      exact rd_err (fun a ha => ⟨z, rfl, by have := hshort z (List.mem_of_getElem? hz); omega⟩) fun d hd => thrown_out (x := .missing z) A3 (th _ hf) (by intro h; cases h) (fun _ => rfl) hd
    · walk_at "rd"
      exact ⟨_, _, _, rfl, find_take_none hz hF (by unfold lostP; rw [decide_eq_true hyes]; rfl), A3⟩
  rintro σ H3 ⟨y3, y4, y5, rfl, hF, A3⟩
  rw [List.length_map, List.take_length] at hF
  have P3 := hP.kp A3.keep
  obtain ⟨dx3, d3, h13, h23⟩ := P3.hpl
  walk_at "rd"
  refine ⟨pl, dx3, _, rfl, h13, rfl, ?_⟩
  walk_at "rd"
  refine ⟨pl, lv, rfl, P3.hpl, fun H4 po4 hpo4 hpo4' k4 => ?_⟩
  have A4 := A3.add (A3.c0 k4) rfl hpo4 hpo4'
  refine ⟨po4, _, rfl, A4.lst 2 rfl, by omega, fun p5 c5 hp5 hc5 => A4.u1 hp5 fun H5 A5 => ?_⟩
  have P5 := hP.kp A5.keep
  obtain ⟨dx5, d5, h15, h25⟩ := P5.hpl
  walk_at "rd"
  refine ⟨pl, dx5, _, rfl, h15, rfl, ?_⟩
  walk_at "rd"
  refine ⟨pl, lv, rfl, P5.hpl, by omega, fun H6 po6 ys hys hso hpo6 hpo6' k6 => ?_⟩
  obtain rfl := sorted_eq hso hP.snl (hys.trans hP.pnl.symm)
  have A6 := A5.add (A5.c0 k6) rfl hpo6 hpo6'
  refine ⟨po6, rfl, ⟨_, A6.lst 4 rfl⟩, ?_⟩
  refine forI (walk_list (xs := ys.map V.str)) (fun i σ H' => ∃ (y3 y5 : Option V), σ = [some (.ref pl), some (.ref a), some (.ref p), y3, some (.ref p5), y5] ∧ (ys.take i).find? (takenP (lv.map (·.1)) nm) = none ∧
      At [] H H' [(p, SetK P w p (inL nm) c), (po, .lst ((lv.map fun e : Str × Option Str => e.1).map V.str)), (po4, .lst ((lv.map fun e : Str × Option Str => e.1).map V.str)), (p5, SetK P w p5 (inL (lv.map fun e : Str × Option Str => e.1)) c5), (po6, .lst (ys.map V.str))] [])
    ⟨_, _, rfl, by simp, A6⟩ (fun i σ H' _ ⟨_, _, _, _, A⟩ => A.lst 4 rfl) ?_ ?_
  · rintro i x σ H7 H7' hi ⟨y3, y5, rfl, hF2, A7⟩ ⟨rfl, hx⟩
    obtain ⟨z, hz, rfl⟩ : ∃ z, ys[i]? = some z ∧ x = .str z := by
      rw [List.getElem?_map] at hx
      obtain ⟨z, hz, e⟩ := Option.map_eq_some_iff.mp hx
      exact ⟨z, hz, e.symm⟩
    walk_at "rd"
    refine ⟨.inr z, p, _, _, rfl, rfl, A7.get 0 rfl, rd_bl ?_⟩
    show if decide (z ∈ nm) = true then _ else _
    refine rd_ite (fun hin => ?_) (fun hno => ?_)
    · walk_at "rd"
      refine ⟨.inr z, p5, _, _, rfl, rfl, A7.get 3 rfl, rd_bl ?_⟩
      show if (!decide (z ∈ lv.map (·.1))) = true then _ else _
      refine rd_iteN (fun hno => ?_) (fun hyes => ?_)
      · walk_at "rd"
        have hf : fitF (lv.map (·.1)) ys nm = some (.held z) := by
          unfold fitF
          rw [hF]
          dsimp only
          rw [find_take hz hF2, if_pos (by unfold takenP; rw [decide_eq_true hin, decide_eq_false hno]; rfl)]
        exact rd_err (fun a ha => ⟨z, rfl, by have := hshortN z (List.mem_of_getElem? hz); omega⟩) fun d hd => thrown_out (x := .held z) A7 (th _ hf) (by intro h; cases h) (fun _ => rfl) hd
      · walk_at "rd"
        exact ⟨_, _, rfl, find_take_none hz hF2 (by unfold takenP; rw [decide_eq_true hin, decide_eq_true hyes]; rfl), A7⟩
    · walk_at "rd"
      exact ⟨_, _, rfl, find_take_none hz hF2 (by unfold takenP; rw [decide_eq_false hno]; rfl), A7⟩
  rintro σ H7 ⟨y3, y5, rfl, hF2, A7⟩
  rw [List.length_map, List.take_length] at hF2
  refine q ?_ H7 A7.keep
  unfold fitF
  rw [hF]
  dsimp only
  rw [hF2]
def spBehind (K : PySem.W.Frag) (C : Addr) (Cs : ErrCs) : Sp := fun vs H Q E => ∃ (pl a : Addr) (lv : List (Str × Option Str)) (nl nm : List Str), vs = [.ref pl, .ref a] ∧ PN K C H pl a lv nl nm ∧
  (∀ x, fitF (lv.map (·.1)) nl nm = some x → Thrown Cs [] H E x) ∧
  (fitF (lv.map (·.1)) nl nm = none → ∀ H' p ys, ys.Perm (nm.filter (fun z => !decide (z ∈ lv.map (·.1))) ++ nl) → sortedS ys = true → H p = none → H' p = some (.lst (ys.map V.str)) → Kp [] H H' → Q (.ref p) H')
structure CBehind (P : Program) (w : World) (K : PySem.W.Frag) (mg : Str → Option Value) (base : Heap) (Cp : Addr) (Cs : ErrCs) : Prop where
  fits : ClX P w K mg base 3 "fits" (spFits K Cp Cs)
end
end Nn

namespace Nn
open PySem PySem.Spec PyProof.Rows L2
local macro_rules | `(tactic| walk_at "rd1") => `(tactic| first
  | with_reducible refine' rd_c ?_
  | ((with_reducible refine' rd_var ?h ?_); (case h => rfl))
  | with_reducible refine' rd_op ?_
  | with_reducible refine' rd_I0 ?_
  | with_reducible refine' rd_seq ?_
  | ((with_reducible refine' rd_mod ?h ?_); (case h => decide))
  | ((with_reducible refine' rd_fdiv ?h ?_); (case h => exact ⟨by decide, by decide⟩))
  | ((with_reducible refine' rd_pow ?h ?_); (case h => exact ⟨by decide, by decide, by decide⟩))
  | ((with_reducible refine' rd_mul ?h ?_); (case h => first | exact Or.inl (by decide) | exact Or.inr (by decide)))
  | with_reducible refine' rd_set ?_
  | with_reducible refine' rd_asg ?_
  | with_reducible refine' rd_cons ?_
  | with_reducible refine' rd_nil ?_
  | with_reducible refine' rd_call ?_
  | with_reducible refine' rd_cb ?_
  | with_reducible refine' rd_if ?_
  | with_reducible refine' rd_test ?_
  | with_reducible refine' rd_B ?_
  | with_reducible refine' rd_bl ?_
  | ((with_reducible refine' rd_eq ?h ?_); (case h => rfl))
  | ((with_reducible refine' rd_ne ?h ?_); (case h => rfl))
  | with_reducible refine' rd_not ?_
  | with_reducible refine' rd_and ?_
  | with_reducible refine' rd_or ?_
  | with_reducible refine' rd_notV ?_
  | with_reducible refine' rd_chain ?_
  | with_reducible refine' rd_ret ?_
  | with_reducible refine' rd_drop ?_
  | with_reducible refine' rd_next' ?_
  | with_reducible refine' rd_lst ?_
  | with_reducible refine' rd_tup ?_
  | with_reducible refine' rd_lc ?_
  | with_reducible refine' rd_rng1 ?_
  | with_reducible refine' rd_istr ?_
  | with_reducible refine' rd_ilst ?_
  | with_reducible refine' rd_ienum ?_
  | with_reducible refine' rd_bm0 ?_
  | with_reducible refine' rd_bm ?_
  | with_reducible refine' rd_m1 ?_
  | with_reducible refine' rd_sl ?_
  | with_reducible refine' rd_po0 ?_
  | with_reducible refine' rd_po1 ?_
  | with_reducible refine' rd_in ?_
  | with_reducible refine' rd_sub ?_
  | with_reducible refine' rd_ifE ?_
  | with_reducible refine' rd_un ?_
  | with_reducible refine' rd_U ?_
  | with_reducible refine' rd_brk ?_
  | with_reducible refine' rd_cont ?_
  | with_reducible refine' rd_yes ?_
  | with_reducible refine' rd_T ?_
  | with_reducible refine' rd_F ?_
  | with_reducible refine' rd_nT ?_
  | with_reducible refine' rd_nF ?_
  | with_reducible refine' rd_dni ?_
  | with_reducible refine' rd_di ?_
  | with_reducible refine' rd_dget ?_
  | with_reducible refine' rd_dget1 ?_
  | with_reducible refine' rd_dget2 ?_
  | with_reducible refine' rd_dget2N ?_
  | with_reducible refine' rd_dpop1 ?_
  | with_reducible refine' rd_ddel ?_
  | with_reducible refine' rd_mkN ?_
  | with_reducible refine' rd_mkV ?_
  | with_reducible refine' rd_dput ?_
  | with_reducible refine' rd_dnew ?_
  | with_reducible refine' rd_ikeys ?_
  | with_reducible refine' rd_gn ?_
  | with_reducible refine' rd_for ?_
  | with_reducible refine' rd_make ?_
  | with_reducible refine' rd_meth ?_
  | with_reducible refine' rd_fld ?_
  | with_reducible refine' rd_sfld ?_
  | with_reducible refine' rd_dc ?_
  | with_reducible refine' rd_items ?_
  | with_reducible refine' rd_sadd ?_
  | with_reducible refine' rd_ivals ?_
  | with_reducible refine' rd_callS ?_
  | with_reducible refine' rd_makeS ?_
  | with_reducible refine' rd_methS ?_
  | with_reducible refine' rd_fldH ?_
  | with_reducible refine' rd_mkO ?_)
local macro_rules | `(tactic| walk_at "sub") => `(tactic| repeat' (first | exact List.nil_sublist _ | exact List.Sublist.refl _ | apply List.Sublist.cons₂ | apply List.Sublist.cons))
local macro_rules | `(tactic| walk_at "rd") => `(tactic| repeat walk_at "rd1")

theorem none_of {H H1 : Hp} (k : Kp [] H H1) {p : Addr} (h : H1 p = none) : H p = none := by
  cases e : H p with
  | none => rfl
  | some o => rw [k p o e (by simp)] at h; cases h
theorem NewD.mono {H H1 : Hp} {ds : List (List Str)} {Q : VK} (h : NewD H ds Q) (k : Kp [] H H1) : NewD H1 ds Q := fun H' p rs hrs hp hp' hN k' =>
  h H' p rs hrs (none_of k hp) hp' (fun x hx => ⟨none_of k (hN x hx).1, (hN x hx).2⟩) fun b o hb hn => k' b o (k b o hb hn) hn
theorem ringAt_of {f : Str → Option Str} {z : Str} {l : List Str} (h : ringAt f z = some l) : IsRing f z l := by
  unfold ringAt at h
  split at h
  · rename_i hh
    cases h
    exact Exists.choose_spec hh
  · cases h
theorem ringsF_ok {lv : List (Str × Option Str)} {r : List Str} (h : r ∈ ringsF lv) : 0 < r.length ∧ r.length ≤ lv.length ∧ ∀ x ∈ r, x ∈ lv.map (·.1) := by
  obtain ⟨z, _, hz⟩ := List.mem_filterMap.mp h
  have hi := ringAt_of hz
  have hk : ∀ x ∈ r, x ∈ lv.map (·.1) := fun x hx => by
    obtain ⟨y, _, e⟩ := hi.toCyc.next hx
    exact toOf_key _ _ e
  refine ⟨hi.toCyc.toRun.pos, ?_, hk⟩
  have := List.Nodup.length_le_of_subset hi.toCyc.toRun.nd hk
  rw [List.length_map] at this
  exact this
theorem ringD_len {s : Str} {r : List Str} (h : 0 < r.length) : (ringD s r).length = r.length + 1 := by
  unfold ringD
  rw [List.length_cons, List.length_append, List.length_map, List.length_range]
  show r.length - 1 + 1 + 1 = _
  omega
theorem chainF_len {lv : List (Str × Option Str)} (h : lv.length < 64) : (chainF lv).length ≤ 64 * 66 := by
  unfold chainF
  refine Nat.le_trans (flat_len (m := 66) fun y _ => ?_) (Nat.mul_le_mul_right _ (by omega))
  have := chainE_len lv y
  omega
section
variable {P : Program} {w : World} {K : PySem.W.Frag} {mg : Str → Option Value} {base : Heap}
structure COver (P : Program) (w : World) (K : PySem.W.Frag) (mg : Str → Option Value) (base : Heap) (Cp : Addr) : Prop where
  _chain_deeds : Cl P w K mg base 2 "_chain_deeds" (spChain Cp)
  _ring_deeds : Cl P w K mg base 1 "_ring_deeds" (spRing K)
structure MOver (P : Program) (w : World) (K : PySem.W.Frag) (mg : Str → Option Value) (base : Heap) (Cp : Addr) : Prop where
  Plan_rings : Mt P w K mg base 1 Cp "rings" (spRings Cp)
def spOver (C : Addr) : Sp := fun vs H Q _ => ∃ (pl : Addr) (lv : List (Str × Option Str)) (sp : Option Str), vs = [.ref pl, ov sp] ∧ PlanAt C H pl lv ∧ Good lv ∧ sortedS (lv.map (·.1)) = true ∧ (ringsF lv ≠ [] → sp ≠ none) ∧ NewD H (deedsF lv sp) Q
theorem ok_deeds_over {f : Addr} {fd : FuncData} (F : Fun K "deeds_over" "deeds_over" sdeeds_over f fd) (B : Blt mg) {Cp : Addr} (C : COver P w K mg base Cp) (M : MOver P w K mg base Cp) : FnOk P w K mg base CX0 3 f fd Pdeeds_over (spOver Cp) := by
  refine F.ok scdeeds_over (fun vs H Q E h => by obtain ⟨pl, lv, sp, rfl, _⟩ := h; rfl) (fun cdv A outer s0 H vs Q E hr h => ?_)
  obtain ⟨pl, lv, sp, rfl, hP, hg, hso, hsp, q⟩ := h
  have hgl := hg.len
  refine ⟨_, pss_cons (ps_set (i := 2) scdeeds_over.nd rfl (Or.inl rfl) (pe_cl C._chain_deeds hr (by omega) (by rfl) (pa_cons (pv 0) pa_nil)))
  (pss_cons (ps_for PassesOwn.never rfl (pi_list (pe_me0 M.Plan_rings hr (by omega) (pv 0))) (pg_name (i := 3) scdeeds_over.nd rfl (Or.inl rfl))
   (pss_one (ps_expr (pe_bm PySem.F.plainAttrs_list PySem.F.slot_list_extend PySem.F.type_list_extend mt_extend (pv 2) (pa_cons (pe_cl C._ring_deeds hr (by omega) (by rfl) (pa_cons (pv 3) (pa_cons (pv 1) pa_nil))) pa_nil)))))
  (pss_one (ps_ret (pv 2)))), ?_⟩
  have A := At.nil H
  walk_at "rd"
  refine ⟨pl, lv, rfl, hP, hg, fun H1 pm rs0 hrs0 hpm hpm' hN1 k1 => ?_⟩
  have A1 := A.addB k1 hpm hpm' (rs0.map tR) hN1 (tR_ne hpm' fun x hx => (hN1 x hx).2)
  have P1 := plan_kp hP A1.keep
  obtain ⟨dx, d, h1, h2⟩ := P1
  walk_at "rd"
  refine ⟨pl, dx, _, rfl, h1, rfl, ?_⟩
  walk_at "rd"
  refine ⟨pl, lv, rfl, ⟨dx, d, h1, h2⟩, hg, hso, fun H2 pr tr htr hpr hpr' hN2 k2 => ?_⟩
  have htr : tr.map (·.2) = ringsF lv := htr
  have A2 := A1.addB k2 hpr hpr' (tr.map tR) hN2 (tR_ne hpr' fun x hx => (hN2 x hx).2)
  have A3 : At [] H H2 [(pm, .lst (rs0.map fun x => V.ref x.1)), (pr, .lst (tr.map fun x => V.ref x.1))] (tr.map tR ++ rs0.map tR) := A2.selT _ (fun x hx => by
    simp only [List.mem_append] at hx ⊢
    rcases hx with h | h
    · exact .inr h
    · exact .inl (.inr h))
  clear A2 A1
  have htrl := rs_len htr
  have hrl : (ringsF lv).length ≤ lv.length := by have := List.length_filterMap_le (ringAt (toOf lv)) (lv.map (·.1)); rw [List.length_map] at this; exact this
  have hcl := chainF_len hgl
  refine ⟨pr, rfl, ⟨_, A3.lst 1 rfl⟩, ?_⟩
  refine forI (walk_list (xs := tr.map fun x => V.ref x.1)) (fun i σ H' => ∃ (rs : List (Addr × List Str)) (y3 : Option V), σ = [some (.ref pl), some (ov sp), some (.ref pm), y3] ∧ rs.map (·.2) = chainF lv ++ ((ringsF lv).take i).flatMap (ringD (sp.getD "")) ∧
      At [] H H' [(pm, .lst (rs.map fun x => V.ref x.1)), (pr, .lst (tr.map fun x => V.ref x.1))] (tr.map tR ++ rs.map tR))
    ⟨rs0, _, rfl, by rw [hrs0]; simp, A3⟩ (fun i σ H' _ ⟨_, _, _, _, A⟩ => A.lst 1 rfl) ?_ ?_
  · rintro i x σ H4 H4' hi ⟨rs, y3, rfl, hrs, A4⟩ ⟨rfl, hx⟩
    have hi' : i < tr.length := by rw [List.length_map] at hi; exact hi
    have ex : x = .ref tr[i].1 := by
      rw [List.getElem?_map, List.getElem?_eq_getElem hi'] at hx
      exact (Option.some.inj hx).symm
    subst ex
    have e2 : (ringsF lv)[i]? = some tr[i].2 := by rw [← htr, List.getElem?_map, List.getElem?_eq_getElem hi']; rfl
    have hmr := List.mem_of_getElem? e2
    obtain ⟨o1, o2, o3⟩ := ringsF_ok hmr
    obtain ⟨z, rfl⟩ : ∃ z, sp = some z := by
      cases sp with
      | some z => exact ⟨z, rfl⟩
      | none => exact absurd rfl (hsp (fun e => by rw [e] at hmr; cases hmr))
    have tm := A4.tm _ (List.mem_append_left _ (List.mem_map_of_mem (f := tR) (List.getElem_mem hi')))
    have et : ((ringsF lv).take (i + 1)).flatMap (ringD z) = ((ringsF lv).take i).flatMap (ringD z) ++ ringD z tr[i].2 := by
      rw [List.take_add_one, e2, List.flatMap_append]
      show _ ++ List.flatMap (ringD z) [tr[i].2] = _
      rw [List.flatMap_cons, List.flatMap_nil, List.append_nil]
    have hl := rs_len hrs
    rw [List.length_append] at hl
    have hfl := flat_len (g := ringD z) (m := 65) (l := (ringsF lv).take i) fun y hy => by
      have := ringsF_ok (List.mem_of_mem_take hy)
      rw [ringD_len this.1]; omega
    have hfl2 : ((ringsF lv).take i).length ≤ 64 := by rw [List.length_take]; omega
    have hl2 : rs.length ≤ 64 * 66 + 64 * 65 := by
      rw [hl]
      exact Nat.add_le_add hcl (Nat.le_trans hfl (Nat.mul_le_mul_right _ hfl2))
    walk_at "rd"
    refine ⟨.inl ⟨rfl, _, A4.lst 0 rfl⟩, ?_⟩
    walk_at "rd"
    refine ⟨tr[i].1, tr[i].2, z, rfl, .inl (.inl tm), o1, by omega, fun H5 p2 rs2 hrs2 hp2 hp2' hN k5 => ?_⟩
    have A5 := A4.addB k5 hp2 hp2' (rs2.map tR) hN (tR_ne hp2' fun x hx => (hN x hx).2)
    have hl3 := rs_len hrs2
    rw [ringD_len o1] at hl3
    refine ⟨pm, p2, _, _, rfl, rfl, A5.get 0 rfl, A5.get 2 rfl, szn (by simp only [List.length_map]; omega), ?_⟩
    have A6 := A5.set 0 rfl (.lst ((rs.map fun x => V.ref x.1) ++ (rs2.map fun x => V.ref x.1)))
    refine ⟨rs ++ rs2, _, rfl, by rw [List.map_append, hrs, hrs2, List.append_assoc]; exact congrArg _ et.symm, ?_⟩
    rw [List.map_append, List.map_append, ← List.append_assoc]
    exact A6.sel (L' := [(pm, .lst ((rs.map fun x => V.ref x.1) ++ (rs2.map fun x => V.ref x.1))), (pr, .lst (tr.map fun x => V.ref x.1))]) (by simp) (by walk_at "sub")
  · rintro σ H4 ⟨rs, y3, rfl, hrs, A4⟩
    rw [List.length_map, htrl, List.take_length] at hrs
    walk_at "rd"
    refine q _ pm rs hrs (A4.new0 0 rfl (by simp)) (A4.get 0 rfl) (fun x hx => ?_) A4.keep
    have := List.mem_append_right (tr.map tR) hx
    exact ⟨A4.tn x this, A4.tm x this⟩
theorem TruV_L {H : Hp} {p : Addr} {xs : List V} {b : Bool} (h : SqL K H p xs) (hb : (!xs.isEmpty) = b) : TruV K (.ref p) H b := by
  exact .inl ⟨xs, h, hb.symm⟩
structure RDeeds (P : Program) (w : World) (K : PySem.W.Frag) (mg : Str → Option Value) (base : Heap) (Cs : ErrCs) : Prop where
  NoSpare : ErrMk P w K mg base 1 "NoSpare" Cs.spare "ring" (okR K)
  Held : ErrMk P w K mg base 1 "Held" Cs.held "name" okT
def spNoRings (C : Addr) (Cs : ErrCs) : Sp := fun vs H Q E => ∃ (pl : Addr) (lv : List (Str × Option Str)), vs = [.ref pl] ∧ PlanAt C H pl lv ∧ Good lv ∧ sortedS (lv.map (·.1)) = true ∧
  (∀ r rest, ringsF lv = r :: rest → Thrown Cs [] H E (.spare r)) ∧ (ringsF lv = [] → ∀ H', Kp [] H H' → Q .non H')
theorem ok__check_no_rings {f : Addr} {fd : FuncData} (F : Fun K "_check_no_rings" "_check_no_rings" s_check_no_rings f fd) (B : Blt mg) {Cp : Addr} {Cs : ErrCs} (M : MOver P w K mg base Cp) (R : RDeeds P w K mg base Cs) : FnOk P w K mg base (L2.CX P w) 3 f fd P_check_no_rings (spNoRings Cp Cs) := by
  refine F.okX sc_check_no_rings (fun vs H Q E h => by obtain ⟨pl, lv, rfl, _⟩ := h; rfl) (fun cdv A outer s0 H vs Q E hr h => ?_)
  obtain ⟨pl, lv, rfl, ⟨dx, d, h1, h2⟩, hg, hso, th, q⟩ := h
  have hgl := hg.len
  refine ⟨_, pss_cons (ps_set (i := 1) sc_check_no_rings.nd rfl (Or.inl rfl) (pe_me0 M.Plan_rings hr (by omega) (pv 0)))
  (pss_one (ps_if (pt_truth (pv 1) (fun _ => rfl)) (pss_one (ps_raise rfl (takes_of rfl rfl rfl rfl) (pmk_err R.NoSpare hr (by omega) (by rfl) (pe_ix ix_list (pv 1) pe_int (fun _ _ => rfl)))))
   (pss_nil))), ?_⟩
  have A := At.nil H
  walk_at "rd"
  refine ⟨pl, dx, _, rfl, h1, rfl, ?_⟩
  walk_at "rd"
  refine ⟨pl, lv, rfl, ⟨dx, d, h1, h2⟩, hg, hso, fun H2 pr tr htr hpr hpr' hN2 k2 => ?_⟩
  have htr : tr.map (·.2) = ringsF lv := htr
  have A2 := A.addB k2 hpr hpr' (tr.map tR) hN2 (tR_ne hpr' fun x hx => (hN2 x hx).2)
  have htrl := rs_len htr
  walk_at "rd"
  cases hrs : ringsF lv with
  | nil =>
    refine ⟨false, TruV_L (A2.lst 0 rfl) (by rw [List.length_eq_zero_iff.mp (by rw [htrl, hrs]; rfl : tr.length = 0)]; rfl), ?_⟩
    walk_at "rd"
    exact q hrs H2 A2.keep
  | cons r rest =>
    have hmr : r ∈ ringsF lv := by rw [hrs]; exact List.mem_cons_self
    obtain ⟨o1, o2, o3⟩ := ringsF_ok hmr
    obtain ⟨x, tr2, rfl⟩ : ∃ x tr2, tr = x :: tr2 := by
      cases tr with
      | nil => rw [hrs] at htr; cases htr
      | cons x tr2 => exact ⟨x, tr2, rfl⟩
    have hx : x.2 = r := by rw [hrs] at htr; exact (List.cons.inj htr).1
    have tm := A2.tm _ (List.mem_append_right _ (List.mem_map_of_mem (f := tR) List.mem_cons_self))
    have tm : H2 x.1 = some (.tup (r.map V.str)) := by rw [← hx]; exact tm
    have hsh : ∀ y ∈ r, Short y := fun y hy => by
      obtain ⟨e, he, rfl⟩ := List.mem_map.mp (o3 y hy)
      exact short_name (hg.old e he)
    refine ⟨true, TruV_L (A2.lst 0 rfl) rfl, ?_⟩
    walk_at "rd"
    refine rd_ixL (A2.lst 0 rfl) (atI_nat (j := 0) rfl) ?_
    refine rd_err (fun b hb => ⟨x.1, r, rfl, .inl (.inl (by rw [upd_ne (ne_of_none tm hb)]; exact tm)), fun y hy => short_cps (hsh y hy), ?_⟩) fun d' hd' => ?_
    · have hc : fmtCost r ≤ r.length * 94 := by
        unfold fmtCost
        have : ∀ l : List Str, (∀ y ∈ l, nameOk y = true) → (l.map fun y => 10 * y.length + 4).sum ≤ l.length * 94 := by
          intro l
          induction l with
          | nil => intro _; exact Nat.le_refl _
          | cons y l ih =>
            intro h
            have h1 := nameOk_len (h y List.mem_cons_self)
            have h2 := ih fun z hz => h z (List.mem_cons_of_mem _ hz)
            rw [List.map_cons, List.sum_cons, List.length_cons, Nat.succ_mul]
            omega
        refine this r fun y hy => ?_
        obtain ⟨e, he, rfl⟩ := List.mem_map.mp (o3 y hy)
        exact hg.old e he
      have : r.length * 94 ≤ 64 * 94 := Nat.mul_le_mul_right _ (by omega)
      omega
    · have B := A2.snoc hd' (.xd [("ring", .ref x.1)])
      exact th r rest hrs d' _ _ (A2.fresh0 hd') B.keep upd_same ⟨x.1, rfl, by rw [upd_ne (ne_of_none tm hd')]; exact tm⟩
def spareF (z : Str) (lv : List (Str × Option Str)) (nm : List Str) : Option Flt := if nameOk z = false then some .name else if z ∈ nm ∨ z ∈ lv.filterMap (·.2) then some (.held z) else none
structure CSpare (P : Program) (w : World) (K : PySem.W.Frag) (mg : Str → Option Value) (base : Heap) (Cs : ErrCs) : Prop where
  check_name : ClX P w K mg base 2 "check_name" (spCheckX Cs)
structure MSpare (P : Program) (w : World) (K : PySem.W.Frag) (mg : Str → Option Value) (base : Heap) (Cp : Addr) : Prop where
  Plan_news : Mt P w K mg base 1 Cp "news" (spNewsM Cp)
def spSpare (K : PySem.W.Frag) (C : Addr) (Cs : ErrCs) : Sp := fun vs H Q E => ∃ (z : Str) (pl a : Addr) (lv : List (Str × Option Str)) (nm : List Str), vs = [.str z, .ref pl, .ref a] ∧ PlanAt C H pl lv ∧ SqL K H a (nm.map V.str) ∧ lv.length < 64 ∧ Short z ∧
  (∀ x, spareF z lv nm = some x → Thrown Cs [] H E x) ∧ (spareF z lv nm = none → ∀ H', Kp [] H H' → Q .non H')
theorem ok__check_spare {f : Addr} {fd : FuncData} (F : Fun K "_check_spare" "_check_spare" s_check_spare f fd) (B : Blt mg) {Cp : Addr} {Cs : ErrCs} (C : CSpare P w K mg base Cs) (M : MSpare P w K mg base Cp) (R : RDeeds P w K mg base Cs) : FnOk P w K mg base (L2.CX P w) 3 f fd P_check_spare (spSpare K Cp Cs) := by
  refine F.okX sc_check_spare (fun vs H Q E h => by obtain ⟨z, pl, a, lv, nm, rfl, _⟩ := h; rfl) (fun cdv A outer s0 H vs Q E hr h => ?_)
  obtain ⟨z, pl, a, lv, nm, rfl, hP, hS, hgl, hz, th, q⟩ := h
  refine ⟨_, pss_cons (ps_expr (pe_clX (takes_of rfl rfl rfl rfl) C.check_name hr (by omega) (by rfl) (pa_cons (pv 0) pa_nil)))
  (pss_one (ps_if (PW.pt (pw_or (pt_cmpR op_in_seq (pv 0) (pv 2) (by rfl)) (pw_or1 (pt_cmpR op_in_seq (pv 0) (pe_me0 M.Plan_news hr (by omega) (pv 1)) (by rfl))))) (pss_one (ps_raise rfl (takes_of rfl rfl rfl rfl) (pmk_err R.Held hr (by omega) (by rfl) (pv 0))))
   (pss_nil))), ?_⟩
  have A := At.nil H
  walk_at "rd"
  refine ⟨z, rfl, hz, fun hok H1 k1 => ?_, fun hno => th _ (by unfold spareF; rw [if_pos hno])⟩
  have A1 := A.c0 k1
  walk_at "rd"
  obtain ⟨dx, d, h1, h2⟩ := plan_kp hP k1
  refine ⟨a, _, rfl, .inl (sql_kp hS k1), rfl, flat_strs _, rd_bl ?_⟩
  show if inV (.str z) (nm.map V.str) = true then _ else _
  rw [inV_strs]
  have out : z ∈ nm ∨ z ∈ lv.filterMap (·.2) → spareF z lv nm = some (.held z) := fun h => by unfold spareF; rw [if_neg (by rw [hok]; decide), if_pos h]
  refine rd_ite (fun hin => ?_) (fun hno => ?_)
  · walk_at "rd"
    exact rd_err (fun a ha => ⟨z, rfl, by have := hz.1; omega⟩) fun d hd => thrown_out (x := .held z) A1 (th _ (out (.inl hin))) (by intro h; cases h) (fun _ => rfl) hd
  · walk_at "rd"
    refine ⟨pl, dx, _, rfl, h1, rfl, ?_⟩
    walk_at "rd"
    refine ⟨pl, lv, rfl, ⟨dx, d, h1, h2⟩, hgl, fun H2 pn ns hns _ hpn hpn' k2 => ?_⟩
    have A2 := A1.add (A1.c0 k2) rfl hpn hpn'
    refine ⟨pn, _, rfl, .inl (A2.lst 0 rfl), rfl, flat_strs _, rd_bl ?_⟩
    show if inV (.str z) (ns.map V.str) = true then _ else _
    rw [inV_strs]
    refine rd_ite (fun hin => ?_) (fun hno2 => ?_)
    · walk_at "rd"
      exact rd_err (fun a ha => ⟨z, rfl, by have := hz.1; omega⟩) fun d hd => thrown_out (x := .held z) A2 (th _ (out (.inr (hns.mem_iff.mp hin)))) (by intro h; cases h) (fun _ => rfl) hd
    · walk_at "rd"
      exact q (by unfold spareF; rw [if_neg (by rw [hok]; decide), if_neg (fun h => h.elim hno fun h => hno2 (hns.mem_iff.mpr h))]) H2 A2.keep
noncomputable def deedsE (lv : List (Str × Option Str)) (nl nm : List Str) (sp : Option Str) : Option Flt := match fitF (lv.map (·.1)) nl nm with
  | some x => some x
  | none => match sp with
    | none => if h : ringsF lv = [] then none else some (.spare ((ringsF lv).head h))
    | some z => spareF z lv nm
structure CDeeds (P : Program) (w : World) (K : PySem.W.Frag) (mg : Str → Option Value) (base : Heap) (Cp : Addr) (Cs : ErrCs) : Prop where
  fits : ClX P w K mg base 3 "fits" (spFits K Cp Cs)
  _check_no_rings : ClX P w K mg base 3 "_check_no_rings" (spNoRings Cp Cs)
  _check_spare : ClX P w K mg base 3 "_check_spare" (spSpare K Cp Cs)
  deeds_over : Cl P w K mg base 3 "deeds_over" (spOver Cp)
def spDeeds (K : PySem.W.Frag) (C : Addr) (Cs : ErrCs) : Sp := fun vs H Q E => ∃ (pl a : Addr) (lv : List (Str × Option Str)) (nl nm : List Str) (sp : Option Str), vs = [.ref pl, .ref a, ov sp] ∧ PN K C H pl a lv nl nm ∧ sortedS (lv.map (·.1)) = true ∧ (∀ z, sp = some z → Short z) ∧
  (∀ x, deedsE lv nl nm sp = some x → Thrown Cs [] H E x) ∧ (deedsE lv nl nm sp = none → NewD H (deedsF lv sp) Q)
theorem ok_deeds {f : Addr} {fd : FuncData} (F : FunD K "deeds" "deeds" (defArgs sdeeds) (defBody sdeeds) (defScope sdeeds) [.non] [] f fd) (B : Blt mg) {Cp : Addr} {Cs : ErrCs} (C : CDeeds P w K mg base Cp Cs) : FnOk P w K mg base (L2.CX P w) 4 f fd Pdeeds (spDeeds K Cp Cs) := by
  refine F.ok scdeeds (fun vs H Q E h => by obtain ⟨pl, a, lv, nl, nm, sp, rfl, _⟩ := h; rfl) (fun cdv A outer s0 H vs Q E hr h => ?_)
  obtain ⟨pl, a, lv, nl, nm, sp, rfl, hP, hso, hsh, th, q⟩ := h
  refine ⟨_, pss_cons (ps_expr (pe_clX (takes_of rfl rfl rfl rfl) C.fits hr (by omega) (by rfl) (pa_cons (pv 0) (pa_cons (pv 1) pa_nil))))
  (Evl.pss_cut (ps_if (pt_cmpR op_isN (pv 2) pe_non (nomark _)) (pss_one (ps_expr (pe_clX (takes_of rfl rfl rfl rfl) C._check_no_rings hr (by omega) (by rfl) (pa_cons (pv 0) pa_nil))))
   (pss_one (ps_expr (pe_clX (takes_of rfl rfl rfl rfl) C._check_spare hr (by omega) (by rfl) (pa_cons (pv 2) (pa_cons (pv 0) (pa_cons (pv 1) pa_nil)))))))
  (pss_one (ps_ret (pe_cl C.deeds_over hr (by omega) (by rfl) (pa_cons (pv 0) (pa_cons (pv 2) pa_nil)))))), ?_⟩
  have A := At.nil H
  walk_at "rd"
  refine ⟨pl, a, lv, nl, nm, rfl, hP, fun x hx => th x (by unfold deedsE; rw [hx]), fun hf H1 k1 => ?_⟩
  have A1 := A.c0 k1
  have P1 := hP.kp k1
  have over : ∀ {H2 : Hp}, Kp [] H H2 → deedsE lv nl nm sp = none → (ringsF lv ≠ [] → sp ≠ none) → spOver Cp [.ref pl, ov sp] H2 Q E0 := fun {H2} k2 hd hn => ⟨pl, lv, sp, rfl, plan_kp hP.hpl k2, hP.good, hso, hn, (q hd).mono k2⟩
  walk_at "rd"
  refine rd_cut (fun σ' H' => σ' = [some (.ref pl), some (.ref a), some (ov sp)] ∧ Kp [] H H' ∧ deedsE lv nl nm sp = none ∧ (ringsF lv ≠ [] → sp ≠ none)) ?_ ?_
  · walk_at "rd"
    cases sp with
    | none =>
      refine ⟨rfl, rd_bl ?_⟩
      refine rd_T ?_
      walk_at "rd"
      refine ⟨pl, lv, rfl, P1.hpl, hP.good, hso, fun r rest hr => thrown_sub A1 (th _ ?_), fun hr H2 k2 => ?_⟩
      · unfold deedsE
        rw [hf]
        show (if h : ringsF lv = [] then none else some (Flt.spare ((ringsF lv).head h))) = _
        rw [dif_neg (by rw [hr]; simp)]
        congr 2
        simp only [hr, List.head_cons]
      · have A2 := A1.c0 k2
        exact ⟨rfl, A2.keep, by unfold deedsE; rw [hf]; exact dif_pos hr, fun h => absurd hr h⟩
    | some z =>
      refine ⟨rfl, rd_bl ?_⟩
      refine rd_F ?_
      walk_at "rd"
      refine ⟨z, pl, a, lv, nm, rfl, P1.hpl, P1.hnm, hP.good.len, hsh z rfl, fun x hx => thrown_sub A1 (th x (by unfold deedsE; rw [hf]; exact hx)), fun hx H2 k2 => ?_⟩
      have A2 := A1.c0 k2
      exact ⟨rfl, A2.keep, by unfold deedsE; rw [hf]; exact hx, fun _ h => by cases h⟩
  · rintro σ H2 ⟨rfl, k2, hd, hn⟩
    walk_at "rd"
    exact over k2 hd hn
end
end Nn

namespace Nn
open PySem PySem.Spec PyProof.Rows L2
local macro_rules | `(tactic| walk_at "rd1") => `(tactic| first
  | with_reducible refine' rd_c ?_
  | ((with_reducible refine' rd_var ?h ?_); (case h => rfl))
  | with_reducible refine' rd_op ?_
  | with_reducible refine' rd_I0 ?_
  | with_reducible refine' rd_seq ?_
  | ((with_reducible refine' rd_mod ?h ?_); (case h => decide))
  | ((with_reducible refine' rd_fdiv ?h ?_); (case h => exact ⟨by decide, by decide⟩))
  | ((with_reducible refine' rd_pow ?h ?_); (case h => exact ⟨by decide, by decide, by decide⟩))
  | ((with_reducible refine' rd_mul ?h ?_); (case h => first | exact Or.inl (by decide) | exact Or.inr (by decide)))
  | with_reducible refine' rd_set ?_
  | with_reducible refine' rd_asg ?_
  | with_reducible refine' rd_cons ?_
  | with_reducible refine' rd_nil ?_
  | with_reducible refine' rd_call ?_
  | with_reducible refine' rd_cb ?_
  | with_reducible refine' rd_if ?_
  | with_reducible refine' rd_test ?_
  | with_reducible refine' rd_B ?_
  | with_reducible refine' rd_bl ?_
  | ((with_reducible refine' rd_eq ?h ?_); (case h => rfl))
  | ((with_reducible refine' rd_ne ?h ?_); (case h => rfl))
  | with_reducible refine' rd_not ?_
  | with_reducible refine' rd_and ?_
  | with_reducible refine' rd_or ?_
  | with_reducible refine' rd_notV ?_
  | with_reducible refine' rd_chain ?_
  | with_reducible refine' rd_ret ?_
  | with_reducible refine' rd_drop ?_
  | with_reducible refine' rd_next' ?_
  | with_reducible refine' rd_lst ?_
  | with_reducible refine' rd_tup ?_
  | with_reducible refine' rd_lc ?_
  | with_reducible refine' rd_rng1 ?_
  | with_reducible refine' rd_istr ?_
  | with_reducible refine' rd_ilst ?_
  | with_reducible refine' rd_ienum ?_
  | with_reducible refine' rd_bm0 ?_
  | with_reducible refine' rd_bm ?_
  | with_reducible refine' rd_m1 ?_
  | with_reducible refine' rd_sl ?_
  | with_reducible refine' rd_po0 ?_
  | with_reducible refine' rd_po1 ?_
  | with_reducible refine' rd_in ?_
  | with_reducible refine' rd_sub ?_
  | with_reducible refine' rd_ifE ?_
  | with_reducible refine' rd_un ?_
  | with_reducible refine' rd_U ?_
  | with_reducible refine' rd_brk ?_
  | with_reducible refine' rd_cont ?_
  | with_reducible refine' rd_yes ?_
  | with_reducible refine' rd_T ?_
  | with_reducible refine' rd_F ?_
  | with_reducible refine' rd_nT ?_
  | with_reducible refine' rd_nF ?_
  | with_reducible refine' rd_dni ?_
  | with_reducible refine' rd_di ?_
  | with_reducible refine' rd_dget ?_
  | with_reducible refine' rd_dget1 ?_
  | with_reducible refine' rd_dget2 ?_
  | with_reducible refine' rd_dget2N ?_
  | with_reducible refine' rd_dpop1 ?_
  | with_reducible refine' rd_ddel ?_
  | with_reducible refine' rd_mkN ?_
  | with_reducible refine' rd_mkV ?_
  | with_reducible refine' rd_dput ?_
  | with_reducible refine' rd_dnew ?_
  | with_reducible refine' rd_ikeys ?_
  | with_reducible refine' rd_gn ?_
  | with_reducible refine' rd_for ?_
  | with_reducible refine' rd_make ?_
  | with_reducible refine' rd_meth ?_
  | with_reducible refine' rd_fld ?_
  | with_reducible refine' rd_sfld ?_
  | with_reducible refine' rd_dc ?_
  | with_reducible refine' rd_items ?_
  | with_reducible refine' rd_sadd ?_
  | with_reducible refine' rd_ivals ?_
  | with_reducible refine' rd_callS ?_
  | with_reducible refine' rd_makeS ?_
  | with_reducible refine' rd_methS ?_
  | with_reducible refine' rd_fldH ?_
  | with_reducible refine' rd_mkO ?_)
local macro_rules | `(tactic| walk_at "sub") => `(tactic| repeat' (first | exact List.nil_sublist _ | exact List.Sublist.refl _ | apply List.Sublist.cons₂ | apply List.Sublist.cons))
local macro_rules | `(tactic| walk_at "rd") => `(tactic| repeat walk_at "rd1")

theorem atI_last {l : List Str} {a : Str} (h : l.getLast? = some a) : atI (l.map V.str) (-1) = some (.str a) := by
  have hp : 0 < l.length := by
    cases l with
    | nil => cases h
    | cons => exact Nat.succ_pos _
  rw [last_at] at h
  unfold atI ixN
  rw [if_neg (by decide), List.length_map, if_pos (by omega)]
  show (l.map V.str)[(-1 + (l.length : Int)).toNat]? = _
  rw [show (-1 + (l.length : Int)).toNat = l.length - 1 by omega, List.getElem?_map, h]
  rfl
theorem toOf_get {prs : List (Str × Option Str)} (a : Str) : (valV (dko prs) (Sum.inr a)).getD .non = ov (toOf prs a) := by
  by_cases h : a ∈ prs.map (·.1)
  · rw [toOf_val h]; rfl
  · rw [(toOf_none h).1, (toOf_none h).2]; rfl
section
variable {P : Program} {w : World} {K : PySem.W.Frag} {mg : Str → Option Value} {base : Heap}
def spLRings : Sp := fun vs H Q _ => ∃ (a : Addr) (te : List (Addr × (Str × Option Str))), vs = [.ref a] ∧ H a = some (.lst (te.map fun x => V.ref x.1)) ∧ (∀ x ∈ te.map tP, H x.1 = some x.2) ∧ Good (te.map (·.2)) ∧
  ∀ H' p (ks : List Str) (rs : List (Addr × List Str)), ks.Perm ((te.map (·.2)).map (·.1)) → sortedS ks = true → rs.map (·.2) = ks.filterMap (ringAt (toOf (te.map (·.2)))) → H p = none → H' p = some (.lst (rs.map fun x => V.ref x.1)) → (∀ x ∈ rs.map tR, H x.1 = none ∧ H' x.1 = some x.2) → Kp [] H H' → Q (.ref p) H'
end
end Nn

namespace Nn
open PySem PySem.Spec PyProof.Rows L2
local macro_rules | `(tactic| walk_at "rd1") => `(tactic| first
  | with_reducible refine' rd_c ?_
  | ((with_reducible refine' rd_var ?h ?_); (case h => rfl))
  | with_reducible refine' rd_op ?_
  | with_reducible refine' rd_I0 ?_
  | with_reducible refine' rd_seq ?_
  | ((with_reducible refine' rd_mod ?h ?_); (case h => decide))
  | ((with_reducible refine' rd_fdiv ?h ?_); (case h => exact ⟨by decide, by decide⟩))
  | ((with_reducible refine' rd_pow ?h ?_); (case h => exact ⟨by decide, by decide, by decide⟩))
  | ((with_reducible refine' rd_mul ?h ?_); (case h => first | exact Or.inl (by decide) | exact Or.inr (by decide)))
  | with_reducible refine' rd_set ?_
  | with_reducible refine' rd_asg ?_
  | with_reducible refine' rd_cons ?_
  | with_reducible refine' rd_nil ?_
  | with_reducible refine' rd_call ?_
  | with_reducible refine' rd_cb ?_
  | with_reducible refine' rd_if ?_
  | with_reducible refine' rd_test ?_
  | with_reducible refine' rd_B ?_
  | with_reducible refine' rd_bl ?_
  | ((with_reducible refine' rd_eq ?h ?_); (case h => rfl))
  | ((with_reducible refine' rd_ne ?h ?_); (case h => rfl))
  | with_reducible refine' rd_not ?_
  | with_reducible refine' rd_and ?_
  | with_reducible refine' rd_or ?_
  | with_reducible refine' rd_notV ?_
  | with_reducible refine' rd_chain ?_
  | with_reducible refine' rd_ret ?_
  | with_reducible refine' rd_drop ?_
  | with_reducible refine' rd_next' ?_
  | with_reducible refine' rd_lst ?_
  | with_reducible refine' rd_tup ?_
  | with_reducible refine' rd_lc ?_
  | with_reducible refine' rd_rng1 ?_
  | with_reducible refine' rd_istr ?_
  | with_reducible refine' rd_ilst ?_
  | with_reducible refine' rd_ienum ?_
  | with_reducible refine' rd_bm0 ?_
  | with_reducible refine' rd_bm ?_
  | with_reducible refine' rd_m1 ?_
  | with_reducible refine' rd_sl ?_
  | with_reducible refine' rd_po0 ?_
  | with_reducible refine' rd_po1 ?_
  | with_reducible refine' rd_in ?_
  | with_reducible refine' rd_sub ?_
  | with_reducible refine' rd_ifE ?_
  | with_reducible refine' rd_un ?_
  | with_reducible refine' rd_U ?_
  | with_reducible refine' rd_brk ?_
  | with_reducible refine' rd_cont ?_
  | with_reducible refine' rd_yes ?_
  | with_reducible refine' rd_T ?_
  | with_reducible refine' rd_F ?_
  | with_reducible refine' rd_nT ?_
  | with_reducible refine' rd_nF ?_
  | with_reducible refine' rd_dni ?_
  | with_reducible refine' rd_di ?_
  | with_reducible refine' rd_dget ?_
  | with_reducible refine' rd_dget1 ?_
  | with_reducible refine' rd_dget2 ?_
  | with_reducible refine' rd_dget2N ?_
  | with_reducible refine' rd_dpop1 ?_
  | with_reducible refine' rd_ddel ?_
  | with_reducible refine' rd_mkN ?_
  | with_reducible refine' rd_mkV ?_
  | with_reducible refine' rd_dput ?_
  | with_reducible refine' rd_dnew ?_
  | with_reducible refine' rd_ikeys ?_
  | with_reducible refine' rd_gn ?_
  | with_reducible refine' rd_for ?_
  | with_reducible refine' rd_make ?_
  | with_reducible refine' rd_meth ?_
  | with_reducible refine' rd_fld ?_
  | with_reducible refine' rd_sfld ?_
  | with_reducible refine' rd_dc ?_
  | with_reducible refine' rd_items ?_
  | with_reducible refine' rd_sadd ?_
  | with_reducible refine' rd_ivals ?_
  | with_reducible refine' rd_callS ?_
  | with_reducible refine' rd_makeS ?_
  | with_reducible refine' rd_methS ?_
  | with_reducible refine' rd_fldH ?_
  | with_reducible refine' rd_mkO ?_)
local macro_rules | `(tactic| walk_at "sub") => `(tactic| repeat' (first | exact List.nil_sublist _ | exact List.Sublist.refl _ | apply List.Sublist.cons₂ | apply List.Sublist.cons))
local macro_rules | `(tactic| walk_at "rd") => `(tactic| repeat walk_at "rd1")

/-! ### things behind a plan, by plain dicts -/
/-- where pairs lead a name -/
def toO (prs : List (Str × Option Str)) (z : Str) : Option Str := match prs.find? fun e => decide (e.1 = z) with
  | none => some z
  | some e => e.2
theorem toV_toO (prs : List (Str × Option Str)) (z : Str) : toV prs z = ov (toO prs z) := by
  unfold toV toO
  cases prs.find? fun e => decide (e.1 = z) <;> rfl
theorem toO_perm {prs lv : List (Str × Option Str)} (nd : (prs.map (·.1)).Nodup) (h : lv.Perm prs) (z : Str) : toO lv z = toO prs z := by unfold toO; rw [find_perm' nd h]
theorem toO_mem {prs : List (Str × Option Str)} (nd : (prs.map (·.1)).Nodup) {e : Str × Option Str} (he : e ∈ prs) : toO prs e.1 = e.2 := by unfold toO; rw [find_mem nd he]
theorem toO_out {prs : List (Str × Option Str)} {z : Str} (h : z ∉ prs.map (·.1)) : toO prs z = some z := by
  have e : prs.find? (fun e => decide (e.1 = z)) = none := List.find?_eq_none.mpr fun e he q => h (of_decide_eq_true q ▸ List.mem_map_of_mem (f := Prod.fst) he)
  unfold toO
  rw [e]
def behF (td : List (Str × V)) (prs : List (Str × Option Str)) : List (Str × V) := td.filterMap fun e => (toO prs e.1).map fun z => (z, e.2)
theorem behF_keys (td : List (Str × V)) (prs : List (Str × Option Str)) : (behF td prs).map (·.1) = td.filterMap fun e => toO prs e.1 := by
  unfold behF
  induction td with
  | nil => rfl
  | cons e r ih =>
    cases h : toO prs e.1 with
    | none => simp only [List.filterMap_cons, h, Option.map_none]; exact ih
    | some z => simp only [List.filterMap_cons, h, Option.map_some, List.map_cons]; rw [ih]
theorem behF_snoc (l : List (Str × V)) (e : Str × V) (prs : List (Str × Option Str)) : behF (l ++ [e]) prs = behF l prs ++ ((toO prs e.1).map fun z => (z, e.2)).toList := by
  unfold behF
  rw [List.filterMap_append]
  cases h : toO prs e.1 <;> simp [h]
theorem putK_dk {td : List (Str × V)} {z : Str} (v : V) (h : z ∉ td.map (·.1)) : putK (dk td) (Sum.inr z) v = dk (td ++ [(z, v)]) := by
  have hn : valV (dk td) (Sum.inr z) = none := by
    have := valV_dk_some td z
    rw [decide_eq_false h] at this
    exact Option.not_isSome_iff_eq_none.mp (by rw [this]; decide)
  rw [putK_new _ hn]
  unfold dk
  rw [List.map_append]; rfl
theorem valV_dk_mem {td : List (Str × V)} (nd : (td.map (·.1)).Nodup) {e : Str × V} (he : e ∈ td) : valV (dk td) (Sum.inr e.1) = some e.2 := by
  induction td with
  | nil => cases he
  | cons x r ih =>
    rw [List.map_cons, List.nodup_cons] at nd
    show valV ((Sum.inr x.1, x.2) :: dk r) (Sum.inr e.1) = _
    rcases List.mem_cons.mp he with h | h
    · subst h; rw [valV_pos rfl]
    · rw [valV_neg fun q => nd.1 (by
        have e1 : x.1 = e.1 := Sum.inr.inj q
        rw [e1]
        exact List.mem_map_of_mem (f := Prod.fst) h), ih nd.2 h]
section
variable {P : Program} {w : World} {K : PySem.W.Frag} {mg : Str → Option Value} {base : Heap}
def spLBeh : Sp := fun vs H Q _ => ∃ (d a : Addr) (td : List (Str × V)) (te : List (Addr × (Str × Option Str))), vs = [.ref d, .ref a] ∧ H d = some (.dK (dk td)) ∧ H a = some (.lst (te.map fun x => V.ref x.1)) ∧ (∀ x ∈ te.map tP, H x.1 = some x.2) ∧
  ((te.map (·.2)).map (·.1)).Nodup ∧ (td.map (·.1)).Nodup ∧ td.length ≤ 1000 ∧ (td.filterMap fun e => toO (te.map (·.2)) e.1).Nodup ∧
  ∀ H' p, H p = none → H' p = some (.dK (dk (behF td (te.map (·.2))))) → Kp [] H H' → Q (.ref p) H'
end
end Nn

namespace Nn
open PySem PySem.Spec PyProof.Rows L2
/-! ### what is due of names held and pairs -/
theorem filt_eq {p : Str → Bool} {os l ys : List Str} (so : sortedS os = true) (hy : sortedS ys = true) (h : ys.Perm (l.filter p)) (hl : os.Perm l) : ys = os.filter p :=
  List.Perm.eq_of_pairwise (fun _ _ _ _ h1 h2 => str_ext' (List.le_antisymm h1 h2)) (sorted_pw hy) ((sorted_pw so).filter p) (h.trans (hl.symm.filter p))
theorem beh_perm {prs : List (Str × Option Str)} {os nl nm : List Str} (ho : os.Perm (prs.map (·.1))) (nd : (prs.map (·.1)).Nodup) (hn : nl.Perm (prs.filterMap (·.2))) (nn : nm.Nodup) (hf : fitF os nl nm = none) :
    (nm.filterMap fun z => toO prs z).Perm (nm.filter (fun z => !decide (z ∈ os)) ++ nl) := by
  have hlost : ∀ z ∈ os, z ∈ nm := by
    intro z hz
    unfold fitF at hf
    cases e : os.find? (lostP nm) with
    | some x => rw [e] at hf; cases hf
    | none =>
      have := List.find?_eq_none.mp e z hz
      unfold lostP at this
      simpa using this
  have h1 := (List.filter_append_perm (fun z => !decide (z ∈ os)) nm).symm.filterMap fun z => toO prs z
  rw [List.filterMap_append] at h1
  have e1 : (nm.filter fun z => !decide (z ∈ os)).filterMap (fun z => toO prs z) = nm.filter fun z => !decide (z ∈ os) := by
    have : ∀ l : List Str, (∀ z ∈ l, z ∉ os) → l.filterMap (fun z => toO prs z) = l := by
      intro l
      induction l with
      | nil => intro _; rfl
      | cons z r ih =>
        intro h
        have hz : toO prs z = some z := toO_out fun q => h z List.mem_cons_self (ho.mem_iff.mpr q)
        rw [List.filterMap_cons_some hz, ih fun y hy => h y (List.mem_cons_of_mem _ hy)]
    exact this _ fun z hz => by simpa using (List.mem_filter.mp hz).2
  have e2 : ((nm.filter fun z => !!decide (z ∈ os)).filterMap fun z => toO prs z).Perm nl := by
    have hp : (nm.filter fun z => !!decide (z ∈ os)).Perm (prs.map (·.1)) := by
      refine (List.perm_ext_iff_of_nodup (nn.filter _) nd).mpr fun z => ?_
      rw [List.mem_filter, ← ho.mem_iff]
      exact ⟨fun h => by simpa using h.2, fun h => ⟨hlost z h, by simpa using h⟩⟩
    refine (hp.filterMap _).trans (List.Perm.trans ?_ hn.symm)
    rw [List.filterMap_map]
    have : ∀ l : List (Str × Option Str), (∀ e ∈ l, e ∈ prs) → l.filterMap ((fun z => toO prs z) ∘ fun e => e.1) = l.filterMap fun e => e.2 := by
      intro l
      induction l with
      | nil => intro _; rfl
      | cons e r ih =>
        intro h
        have e0 : ((fun z => toO prs z) ∘ fun e : Str × Option Str => e.1) e = e.2 := toO_mem nd (h e List.mem_cons_self)
        simp only [List.filterMap_cons, e0, ih fun y hy => h y (List.mem_cons_of_mem _ hy)]
    rw [this prs fun e he => he]
  exact h1.trans (by rw [e1]; exact e2.append_left _)
theorem beh_nodup {prs : List (Str × Option Str)} {os nl nm : List Str} (ho : os.Perm (prs.map (·.1))) (nd : (prs.map (·.1)).Nodup) (hn : nl.Perm (prs.filterMap (·.2))) (ndn : nl.Nodup) (nn : nm.Nodup) (hf : fitF os nl nm = none) : (nm.filterMap fun z => toO prs z).Nodup := by
  refine (beh_perm ho nd hn nn hf).nodup_iff.mpr (List.nodup_append.mpr ⟨nn.filter _, ndn, fun z hz y hy e => ?_⟩)
  subst e
  unfold fitF at hf
  cases e1 : os.find? (lostP nm) with
  | some x => rw [e1] at hf; cases hf
  | none =>
    rw [e1] at hf
    cases e2 : nl.find? (takenP os nm) with
    | some x => simp only [e2] at hf; cases hf
    | none =>
      have := List.find?_eq_none.mp e2 z hy
      unfold takenP at this
      obtain ⟨g1, g2⟩ := List.mem_filter.mp hz
      simp at this g2
      exact g2 (this g1)
/-- the word and what is told with it -/
def dw (f : Option Flt) : Str := match f with
  | some x => x.word
  | none => "good"
def dd (f : Option Flt) (g : PyData) : PyData := match f with
  | some x => x.fld
  | none => g
theorem fit_ok {os nl nm : List Str} {x : Flt} (h : fitF os nl nm = some x) (ho : ∀ z ∈ os, Short z) (hn : ∀ z ∈ nl, Short z) : PyData.strOk x.word = true ∧ Sm 0 x.fld ∧ tyOf x.fld = "str" := by
  unfold fitF at h
  cases e : os.find? (lostP nm) with
  | some z =>
    rw [e] at h
    cases h
    exact ⟨(by decide +kernel : PyData.strOk "missing" = true), (ho z (List.mem_of_find?_eq_some e)).2, rfl⟩
  | none =>
    rw [e] at h
    cases e2 : nl.find? (takenP os nm) with
    | none => simp only [e2] at h; cases h
    | some z =>
      simp only [e2] at h
      cases h
      exact ⟨(by decide +kernel : PyData.strOk "held" = true), (hn z (List.mem_of_find?_eq_some e2)).2, rfl⟩
structure PrsG (H : Hp) (a : Addr) (te : List (Addr × (Str × Option Str))) : Prop where
  lst : H a = some (.lst (te.map fun x => V.ref x.1))
  tup : ∀ x ∈ te.map tP, H x.1 = some x.2
  good : Good (te.map (·.2))
theorem PrsG.kp {H H' : Hp} {a : Addr} {te : List (Addr × (Str × Option Str))} (h : PrsG H a te) (k : Kp [] H H') : PrsG H' a te := ⟨k _ _ h.lst (by simp), fun x hx => k _ _ (h.tup x hx) (by simp), h.good⟩
end Nn

namespace Nn
open PySem PySem.Spec PyProof.Rows L2
section
variable {P : Program} {w : World} {K : PySem.W.Frag} {mg : Str → Option Value} {base : Heap}
/-! ### deeds as data -/
theorem toOf_perm {prs lv : List (Str × Option Str)} (nd : (prs.map (·.1)).Nodup) (h : lv.Perm prs) : toOf lv = toOf prs := funext fun z => by unfold toOf; rw [find_perm' nd h]
theorem sm_rings {rs : List (List Str)} (hl : rs.length ≤ 1000) (h : ∀ r ∈ rs, r.length ≤ 1000 ∧ ∀ y ∈ r, Short y) : Sm 2 (.list (rs.map fun r => .tuple (r.map .str))) := by
  refine sm_list (by rw [List.length_map]; exact hl) fun e he => ?_
  obtain ⟨r, hr, rfl⟩ := List.mem_map.mp he
  refine ⟨by rw [List.length_map]; exact (h r hr).1, fun d hd => ?_⟩
  obtain ⟨y, hy, rfl⟩ := List.mem_map.mp hd
  exact ((h r hr).2 y hy).2
theorem dp_rings {H : Hp} {a : Addr} {rs : List (Addr × List Str)} (ha : SqL K H a (rs.map fun x => V.ref x.1)) (h : ∀ x ∈ rs.map tR, H x.1 = some x.2) : Dp K H (.ref a) (.list ((rs.map (·.2)).map fun r => .tuple (r.map .str))) := by
  refine .lst ha ?_
  rw [List.map_map]
  exact dpa_of fun x hx => .tup (.inl (.inl (h _ (List.mem_map_of_mem (f := tR) hx)))) (dp_strs _)
def deedsP (ds : List (List Str)) : PyData := .list (ds.map fun r => .tuple (r.map .str))
theorem deedsF_ok {lv : List (Str × Option Str)} {sp : Option Str} (g : Good lv) (hs : ∀ z, sp = some z → Short z) : (deedsF lv sp).length ≤ 10000 ∧ ∀ r ∈ deedsF lv sp, r.length ≤ 1000 ∧ ∀ y ∈ r, Short y := by
  have hgl := g.len
  have hm : Short "move" := ⟨by decide +kernel, by decide +kernel⟩
  have hd : Short "drop" := ⟨by decide +kernel, by decide +kernel⟩
  have he : Short "" := ⟨by decide +kernel, by decide +kernel⟩
  have ho : ∀ z ∈ lv.map (·.1), Short z := fun z hz => by
    obtain ⟨e, he, rfl⟩ := List.mem_map.mp hz
    exact short_name (g.old e he)
  have mv : ∀ {a b : Str}, Short a → Short b → (mvD a b).length ≤ 1000 ∧ ∀ y ∈ mvD a b, Short y := fun {a b} ha hb => ⟨by show 3 ≤ 1000; omega, fun y hy => by
    simp only [List.mem_cons, List.not_mem_nil, or_false] at hy
    rcases hy with rfl | rfl | rfl <;> assumption⟩
  have upk : ∀ {z : Str} {l : List Str}, (∀ x ∈ l, Short x) → ∀ r ∈ upM l, r.length ≤ 1000 ∧ ∀ y ∈ r, Short y := by
    intro z l
    induction l with
    | nil => intro _ r hr; cases hr
    | cons a l ih =>
      intro h r hr
      cases l with
      | nil => cases hr
      | cons b l =>
        rcases List.mem_cons.mp hr with e | hr
        · rw [e]; exact mv (h b (by simp)) (h a (by simp))
        · exact ih (fun x hx => h x (List.mem_cons_of_mem _ hx)) r hr
  have upa : ∀ {z : Str}, Short z → ∀ x ∈ upAt (toOf lv) z, Short x := fun {z} hz x hx => by
    unfold upAt at hx
    split at hx
    · rename_i hh
      have sp := Exists.choose_spec hh
      obtain ⟨i, hi⟩ := List.getElem?_of_mem hx
      cases i with
      | zero => rw [sp.hd] at hi; cases hi; exact hz
      | succ i =>
        have hil := (List.getElem?_eq_some_iff.mp hi).1
        exact ho x (toOf_key _ _ (sp.st i _ _ (List.getElem?_eq_getElem (by omega)) hi))
    · cases hx
  have hrl : (ringsF lv).length ≤ lv.length := by have := List.length_filterMap_le (ringAt (toOf lv)) (lv.map (·.1)); rw [List.length_map] at this; exact this
  have gs : Short (sp.getD "") := by
    cases sp with
    | none => exact he
    | some z => exact hs z rfl
  refine ⟨?_, fun r hr => ?_⟩
  · unfold deedsF
    rw [List.length_append]
    have h1 := chainF_len hgl
    have h2 := flat_len (g := ringD (sp.getD "")) (m := 65) (l := ringsF lv) fun y hy => by
      have := ringsF_ok hy
      rw [ringD_len this.1]; omega
    have h3 : (ringsF lv).length * 65 ≤ 64 * 65 := Nat.mul_le_mul_right _ (by omega)
    omega
  · unfold deedsF at hr
    rcases List.mem_append.mp hr with hr | hr
    · obtain ⟨e, he, hr⟩ := List.mem_flatMap.mp hr
      unfold chainE at hr
      cases h : e.2 with
      | none =>
        rw [h] at hr
        rcases List.mem_cons.mp hr with e1 | hr
        · rw [e1]
          exact ⟨by show 2 ≤ 1000; omega, fun y hy => by
            simp only [List.mem_cons, List.not_mem_nil, or_false] at hy
            rcases hy with rfl | rfl
            · exact hd
            · exact short_name (g.old e he)⟩
        · exact upk (z := e.1) (upa (short_name (g.old e he))) r hr
      | some n =>
        rw [h] at hr
        have hr : r ∈ (if n ∈ lv.map (·.1) then [] else upM (upAt (toOf lv) n)) := hr
        split at hr
        · cases hr
        · exact upk (z := n) (upa (short_name (g.new e he n h))) r hr
    · obtain ⟨l, hl, hr⟩ := List.mem_flatMap.mp hr
      obtain ⟨o1, o2, o3⟩ := ringsF_ok hl
      have gd : ∀ i, Short (l.getD i "") := fun i => by
        rw [List.getD_eq_getElem?_getD]
        cases h : l[i]? with
        | none => exact he
        | some x => exact ho x (o3 x (List.mem_of_getElem? h))
      unfold ringD at hr
      rcases List.mem_cons.mp hr with e1 | hr
      · rw [e1]; exact mv (gd _) gs
      · rcases List.mem_append.mp hr with hr | hr
        · obtain ⟨i, _, rfl⟩ := List.mem_map.mp hr
          exact mv (gd _) (gd _)
        · rw [List.mem_singleton] at hr
          rw [hr]; exact mv gs (gd _)
theorem deedsF_len {lv : List (Str × Option Str)} {sp : Option Str} {n : Nat} (h : lv.length ≤ n) : (deedsF lv sp).length ≤ n * (n + 2) + n * (n + 1) := by
  unfold deedsF
  rw [List.length_append]
  have h1 : (chainF lv).length ≤ lv.length * (n + 2) := flat_len fun y _ => by have := chainE_len lv y; omega
  have hrl : (ringsF lv).length ≤ lv.length := by have := List.length_filterMap_le (ringAt (toOf lv)) (lv.map (·.1)); rw [List.length_map] at this; exact this
  have h2 := flat_len (g := ringD (sp.getD "")) (m := n + 1) (l := ringsF lv) fun y hy => by
    have := ringsF_ok hy
    rw [ringD_len this.1]; omega
  exact Nat.add_le_add (Nat.le_trans h1 (Nat.mul_le_mul_right _ h)) (Nat.le_trans h2 (Nat.mul_le_mul_right _ (by omega)))
theorem deedsE_ok {lv : List (Str × Option Str)} {nl nm : List Str} {sp : Option Str} {x : Flt} (h : deedsE lv nl nm sp = some x) (g : Good lv) (hn : ∀ z ∈ nl, Short z) (hs : ∀ z, sp = some z → Short z) : PyData.strOk x.word = true ∧ Sm 1 x.fld := by
  have ho : ∀ z ∈ lv.map (·.1), Short z := fun z hz => by
    obtain ⟨e, he, rfl⟩ := List.mem_map.mp hz
    exact short_name (g.old e he)
  unfold deedsE at h
  cases hf : fitF (lv.map (·.1)) nl nm with
  | some y =>
    rw [hf] at h
    cases h
    obtain ⟨g1, g2, _⟩ := fit_ok hf ho hn
    refine ⟨g1, ?_⟩
    revert g2
    cases x.fld <;> intro g2 <;> first | exact g2 | exact True.intro | exact g2.elim
  | none =>
    rw [hf] at h
    cases sp with
    | none =>
      have h : (if h : ringsF lv = [] then none else some (Flt.spare ((ringsF lv).head h))) = some x := h
      split at h
      · cases h
      · rename_i hne
        cases h
        have hm := List.head_mem hne
        obtain ⟨o1, o2, o3⟩ := ringsF_ok hm
        have := g.len
        refine ⟨(by decide +kernel : PyData.strOk "spare" = true), by rw [List.length_map]; omega, fun d hd => ?_⟩
        obtain ⟨y, hy, rfl⟩ := List.mem_map.mp hd
        exact (ho y (o3 y hy)).2
    | some z =>
      have h : spareF z lv nm = some x := h
      unfold spareF at h
      split at h
      · cases h
        exact ⟨(by decide +kernel : PyData.strOk "name" = true), True.intro⟩
      · split at h
        · cases h
          exact ⟨(by decide +kernel : PyData.strOk "held" = true), (hs z rfl).2⟩
        · cases h
theorem deedsE_perm {lv : List (Str × Option Str)} {nl nm ys : List Str} {sp : Option Str} (h : nm.Perm ys) : deedsE lv nl nm sp = deedsE lv nl ys sp := by
  have e1 : lostP nm = lostP ys := funext fun z => by
    unfold lostP
    rw [show decide (z ∈ nm) = decide (z ∈ ys) from decide_eq_decide.mpr h.mem_iff]
  have e2 : takenP (lv.map (·.1)) nm = takenP (lv.map (·.1)) ys := funext fun z => by
    unfold takenP
    rw [show decide (z ∈ nm) = decide (z ∈ ys) from decide_eq_decide.mpr h.mem_iff]
  have e3 : ∀ z, spareF z lv nm = spareF z lv ys := fun z => by
    unfold spareF
    by_cases hn : nameOk z = false
    · rw [if_pos hn, if_pos hn]
    · rw [if_neg hn, if_neg hn]
      have hor : (z ∈ nm ∨ z ∈ lv.filterMap (·.2)) ↔ (z ∈ ys ∨ z ∈ lv.filterMap (·.2)) := or_congr h.mem_iff Iff.rfl
      by_cases hm : z ∈ nm ∨ z ∈ lv.filterMap (·.2)
      · rw [if_pos hm, if_pos (hor.mp hm)]
      · rw [if_neg hm, if_neg fun q => hm (hor.mpr q)]
  unfold deedsE fitF
  rw [e1, e2]
  cases sp with
  | none => rfl
  | some z => simp only [e3]
end
end Nn

namespace Nn
open PySem PySem.Spec PyProof.Rows L2
/-- a def of the text, called where its last defaults are taken -/
structure ClD (P : Program) (w : World) (K : PySem.W.Frag) (mg : Str → Option Value) (base : Heap) (k : Nat) (x : Str) (sp : Sp) (dvs : List V) : Prop where
  ex : ∃ (f : Addr) (fd : FuncData) (ps : List Str) (ds : List Value), FnOk P w K mg base CX0 k f fd ps sp ∧ mg x = some (.ref f) ∧ PySem.W.keepIn K (.ref f) = true ∧ Vals dvs ds ∧ Binds K fd ps ds
section
variable {X : Cx} {k j : Nat} {x : Str} {sp : Sp} {p pos : Pos} {e : Expr} {es : List Expr} {t : TA} {dvs : List V}
theorem pe_clD (c : ClD X.prog X.w X.K X.mg X.base k x sp dvs) (hr : Room j X.A) (hk : k ≤ j) (hg : Gl X x) (ha : PA X (e :: es) t)
    (hdb : (x == ("__debug__" : Str)) = false := by decide) (he : starEach (e :: es) X.env = (false, eval e X.env) :: starEach es X.env := by rfl) (hpl : (backTo pos (starEach es X.env)).any (·.1) = false := by rfl) :
    PE X (.Call (.Name x p) (e :: es) [] pos) (tCall sp dvs E0 t) := by
  obtain ⟨f, fd, ps, ds, F, hm, kp, hd, b⟩ := c.ex
  exact pe_call F (hr.mono hk) hg hm kp b hd pass0 ha hdb he hpl
end
section
variable {P : Program} {w : World} {K : PySem.W.Frag} {mg : Str → Option Value} {base : Heap}
def spDeedsN (K : PySem.W.Frag) (C : Addr) : Sp := fun vs H Q _ => ∃ (pl a : Addr) (lv : List (Str × Option Str)) (nl nm : List Str) (sp : Option Str), vs = [.ref pl, .ref a, ov sp] ∧ PN K C H pl a lv nl nm ∧ sortedS (lv.map (·.1)) = true ∧ (∀ z, sp = some z → Short z) ∧
  deedsE lv nl nm sp = none ∧ NewD H (deedsF lv sp) Q
theorem deedsN {K' : PySem.W.Frag} {C : Addr} {Cs : ErrCs} : ∀ vs H Q E, spDeedsN K' C vs H Q E → spDeeds K' C Cs vs H Q fun _ _ _ => False :=
  fun vs H Q E ⟨pl, a, lv, nl, nm, sp, e, h1, h2, h3, h4, q⟩ => ⟨pl, a, lv, nl, nm, sp, e, h1, h2, h3, (fun x hx => by rw [h4] at hx; cases hx), fun _ => q⟩
end
end Nn

namespace Nn
open PySem PySem.Spec PyProof.Rows L2
/-! ### plans joined: the data -/
abbrev Prs := List (Str × Option Str)
def newsOf (lv : Prs) : List Str := lv.filterMap (·.2)
theorem newsOf_mem {lv : Prs} {z : Str} : z ∈ newsOf lv ↔ ∃ o, (o, some z) ∈ lv := by
  unfold newsOf
  rw [List.mem_filterMap]
  exact ⟨fun ⟨e, he, h⟩ => ⟨e.1, by rw [← h]; exact he⟩, fun ⟨o, h⟩ => ⟨_, h, rfl⟩⟩
theorem olds_mem {lv : Prs} {z : Str} : z ∈ lv.map (·.1) ↔ ∃ o, (z, o) ∈ lv := by
  rw [List.mem_map]
  exact ⟨fun ⟨e, he, h⟩ => ⟨e.2, by rw [← h]; exact he⟩, fun ⟨o, h⟩ => ⟨_, h, rfl⟩⟩
def lostQ (lv : Prs) (z : Str) : Bool := decide (z ∈ lv.map (·.1)) && !decide (z ∈ newsOf lv)
def takenQ (lv : Prs) (os : List Str) (z : Str) : Bool := decide (z ∈ newsOf lv) && !decide (z ∈ os)
def followF (lv : Prs) (os nl : List Str) : Option Flt := match os.find? (lostQ lv) with
  | some z => some (.missing z)
  | none => match nl.find? (takenQ lv os) with
    | some z => some (.held z)
    | none => none
theorem follow_none {lv : Prs} {os nl : List Str} : followF lv os nl = none ↔ (∀ z ∈ os, z ∈ lv.map (·.1) → z ∈ newsOf lv) ∧ ∀ z ∈ nl, z ∈ newsOf lv → z ∈ os := by
  unfold followF
  cases e : os.find? (lostQ lv) with
  | some x =>
    refine ⟨fun h => by simp at h, fun ⟨h, _⟩ => ?_⟩
    have hm := List.mem_of_find?_eq_some e
    have hp := List.find?_some e
    unfold lostQ at hp
    simp only [Bool.and_eq_true, decide_eq_true_eq, Bool.not_eq_true', decide_eq_false_iff_not] at hp
    exact absurd (h x hm hp.1) hp.2
  | none =>
    have h1 : ∀ z ∈ os, z ∈ lv.map (·.1) → z ∈ newsOf lv := fun z hz h => by
      have := List.find?_eq_none.mp e z hz
      unfold lostQ at this
      rw [decide_eq_true h, Bool.true_and] at this
      simpa using this
    cases e2 : nl.find? (takenQ lv os) with
    | some x =>
      refine ⟨fun h => by simp at h, fun ⟨_, h⟩ => ?_⟩
      have hm := List.mem_of_find?_eq_some e2
      have hp := List.find?_some e2
      unfold takenQ at hp
      simp only [Bool.and_eq_true, decide_eq_true_eq, Bool.not_eq_true', decide_eq_false_iff_not] at hp
      exact absurd (h x hm hp.1) hp.2
    | none =>
      refine ⟨fun _ => ⟨h1, fun z hz h => ?_⟩, fun _ => rfl⟩
      have := List.find?_eq_none.mp e2 z hz
      unfold takenQ at this
      rw [decide_eq_true h, Bool.true_and] at this
      simpa using this
theorem follow_perm {lv lw : Prs} {os nl : List Str} (h : lv.Perm lw) : followF lv os nl = followF lw os nl := by
  have e1 : lostQ lv = lostQ lw := by
    funext z
    unfold lostQ newsOf
    rw [show decide (z ∈ lv.map (·.1)) = decide (z ∈ lw.map (·.1)) from decide_eq_decide.mpr (h.map _).mem_iff, show decide (z ∈ lv.filterMap (·.2)) = decide (z ∈ lw.filterMap (·.2)) from decide_eq_decide.mpr (h.filterMap _).mem_iff]
  have e2 : takenQ lv os = takenQ lw os := by
    funext z
    unfold takenQ newsOf
    rw [show decide (z ∈ lv.filterMap (·.2)) = decide (z ∈ lw.filterMap (·.2)) from decide_eq_decide.mpr (h.filterMap _).mem_iff]
  unfold followF
  rw [e1, e2]
def joinP (l1 l2 : Prs) : Prs := l1.map (fun e => (e.1, e.2.bind (toO l2))) ++ l2.filter fun e => !decide (e.1 ∈ newsOf l1)
theorem toO_some {lv : Prs} {a z : Str} (h : toO lv a = some z) : (a, some z) ∈ lv ∨ (a ∉ lv.map (·.1) ∧ z = a) := by
  unfold toO at h
  cases e : lv.find? (fun e => decide (e.1 = a)) with
  | none =>
    rw [e] at h
    refine .inr ⟨fun hm => ?_, (Option.some.inj h).symm⟩
    obtain ⟨o, ho⟩ := olds_mem.mp hm
    have := List.find?_eq_none.mp e _ ho
    simp at this
  | some x =>
    rw [e] at h
    have hx := List.mem_of_find?_eq_some e
    have hz := List.find?_some e
    have hz : x.1 = a := of_decide_eq_true hz
    left
    rw [← hz, ← h]
    exact hx
theorem news_injJ {lv : Prs} (nd : (lv.filterMap (·.2)).Nodup) {a b z : Str} (ha : (a, some z) ∈ lv) (hb : (b, some z) ∈ lv) : a = b := by
  induction lv with
  | nil => cases ha
  | cons x r ih =>
    have nd2 : (r.filterMap (·.2)).Nodup := by
      cases h : x.2 with
      | none => simpa [h] using nd
      | some y => rw [List.filterMap_cons_some h] at nd; exact (List.nodup_cons.mp nd).2
    have out : x.2 = some z → ∀ c, (c, some z) ∉ r := fun h c hc => by
      rw [List.filterMap_cons_some h] at nd
      exact (List.nodup_cons.mp nd).1 (List.mem_filterMap.mpr ⟨_, hc, rfl⟩)
    rcases List.mem_cons.mp ha with h1 | h1 <;> rcases List.mem_cons.mp hb with h2 | h2
    · exact congrArg Prod.fst (h1.trans h2.symm)
    · exact absurd h2 (out (by rw [← h1]) b)
    · exact absurd h1 (out (by rw [← h2]) a)
    · exact ih nd2 h1 h2
theorem olds_inj {lv : Prs} (nd : (lv.map (·.1)).Nodup) {a : Str} {x y : Option Str} (ha : (a, x) ∈ lv) (hb : (a, y) ∈ lv) : x = y := by
  have h1 := toO_mem nd ha
  have h2 := toO_mem nd hb
  exact h1.symm.trans h2
theorem join_fst (l1 l2 : Prs) : (joinP l1 l2).map (·.1) = l1.map (·.1) ++ (l2.filter fun e => !decide (e.1 ∈ newsOf l1)).map (·.1) := by
  unfold joinP
  rw [List.map_append, List.map_map]; rfl
theorem join_news (l1 l2 : Prs) : newsOf (joinP l1 l2) = (newsOf l1).filterMap (toO l2) ++ newsOf (l2.filter fun e => !decide (e.1 ∈ newsOf l1)) := by
  have h : (l1.map fun e => (e.1, e.2.bind (toO l2))).filterMap (·.2) = (l1.filterMap (·.2)).filterMap (toO l2) := by
    rw [List.filterMap_map, List.filterMap_filterMap]; rfl
  show ((l1.map fun e => (e.1, e.2.bind (toO l2))) ++ l2.filter _).filterMap (·.2) = _
  rw [List.filterMap_append, h]; rfl
theorem toO_ok {lv : Prs} (g : Good lv) {a z : Str} (ha : nameOk a = true) (h : toO lv a = some z) : nameOk z = true := by
  rcases toO_some h with h | ⟨_, rfl⟩
  · exact g.new _ h z rfl
  · exact ha
theorem good_join {l1 l2 : Prs} {os nl : List Str} (g1 : Good l1) (g2 : Good l2) (ho : os.Perm (l2.map (·.1))) (hn : nl.Perm (newsOf l2)) (hf : followF l1 os nl = none) (hl : l1.length + l2.length < 64) : Good (joinP l1 l2) := by
  obtain ⟨f1, f2⟩ := follow_none.mp hf
  have f1 : ∀ z ∈ l2.map (·.1), z ∈ l1.map (·.1) → z ∈ newsOf l1 := fun z hz => f1 z (ho.mem_iff.mpr hz)
  have f2 : ∀ z ∈ newsOf l2, z ∈ newsOf l1 → z ∈ l2.map (·.1) := fun z hz h => ho.mem_iff.mp (f2 z (hn.mem_iff.mpr hz) h)
  refine ⟨fun e he => ?_, fun e he z hz => ?_, ?_, ?_, ?_⟩
  · rcases List.mem_append.mp he with he | he
    · obtain ⟨x, hx, rfl⟩ := List.mem_map.mp he
      exact g1.old x hx
    · exact g2.old e (List.mem_filter.mp he).1
  · rcases List.mem_append.mp he with he | he
    · obtain ⟨x, hx, rfl⟩ := List.mem_map.mp he
      obtain ⟨n, hn, h⟩ := Option.bind_eq_some_iff.mp hz
      exact toO_ok g2 (g1.new x hx n hn) h
    · exact g2.new e (List.mem_filter.mp he).1 z hz
  · rw [join_fst]
    refine List.nodup_append.mpr ⟨g1.oldsNd, g2.oldsNd.sublist (List.filter_sublist.map _), fun a ha b hb e => ?_⟩
    subst e
    obtain ⟨x, hx, rfl⟩ := List.mem_map.mp hb
    have hx := List.mem_filter.mp hx
    have h2 : x.1 ∉ newsOf l1 := by simpa using hx.2
    exact h2 (f1 _ (List.mem_map_of_mem (f := Prod.fst) hx.1) ha)
  · show (newsOf (joinP l1 l2)).Nodup
    rw [join_news]
    refine List.nodup_append.mpr ⟨?_, g2.newsNd.sublist (List.filter_sublist.filterMap _), fun a ha b hb e => ?_⟩
    · refine List.pairwise_filterMap.mpr (List.Pairwise.imp_of_mem (fun {a b} ha hb ne x hx y hy e => ?_) g1.newsNd)
      subst e
      rcases toO_some hx with h1 | ⟨h1, e1⟩ <;> rcases toO_some hy with h2 | ⟨h2, e2⟩
      · exact ne (news_injJ g2.newsNd h1 h2)
      · subst e2; exact h2 (f2 _ (newsOf_mem.mpr ⟨_, h1⟩) hb)
      · subst e1; exact h1 (f2 _ (newsOf_mem.mpr ⟨_, h2⟩) ha)
      · exact ne (e1.symm.trans e2)
    · subst e
      obtain ⟨n, hn, h⟩ := List.mem_filterMap.mp ha
      obtain ⟨o, hob⟩ := newsOf_mem.mp hb
      have hob := List.mem_filter.mp hob
      have hno : o ∉ newsOf l1 := by simpa using hob.2
      rcases toO_some h with h1 | ⟨h1, e1⟩
      · exact hno (news_injJ g2.newsNd h1 hob.1 ▸ hn)
      · subst e1; exact h1 (f2 _ (newsOf_mem.mpr ⟨_, hob.1⟩) hn)
  · unfold joinP
    rw [List.length_append, List.length_map]
    have := List.length_filter_le (fun e : Str × Option Str => !decide (e.1 ∈ newsOf l1)) l2
    omega
/-! ### plans of names held -/
structure Fit (nm : List Str) (lv : Prs) : Prop where
  olds : ∀ z ∈ lv.map (·.1), z ∈ nm
  news : ∀ z ∈ newsOf lv, z ∈ nm → z ∈ lv.map (·.1)
def behN (nm : List Str) (lv : Prs) : List Str := nm.filterMap (toO lv)
theorem Fit.perm {nm : List Str} {lv lw : Prs} (h : lv.Perm lw) (f : Fit nm lw) : Fit nm lv :=
  ⟨fun z hz => f.olds z ((h.map _).mem_iff.mp hz), fun z hz hm => (h.map _).mem_iff.mpr (f.news z ((h.filterMap _).mem_iff.mp hz) hm)⟩
theorem beh_mem {nm : List Str} {lv : Prs} (g : Good lv) (f : Fit nm lv) {z : Str} : z ∈ behN nm lv ↔ z ∈ newsOf lv ∨ (z ∈ nm ∧ z ∉ lv.map (·.1)) := by
  unfold behN
  rw [List.mem_filterMap]
  constructor
  · rintro ⟨a, ha, h⟩
    rcases toO_some h with h | ⟨h, rfl⟩
    · exact .inl (newsOf_mem.mpr ⟨_, h⟩)
    · exact .inr ⟨ha, h⟩
  · rintro (h | ⟨h1, h2⟩)
    · obtain ⟨o, ho⟩ := newsOf_mem.mp h
      exact ⟨o, f.olds o (olds_mem.mpr ⟨_, ho⟩), toO_mem g.oldsNd ho⟩
    · exact ⟨z, h1, toO_out h2⟩
theorem Fit.follow {nm os nl : List Str} {l1 l2 : Prs} (g1 : Good l1) (f1 : Fit nm l1) (f2 : Fit (behN nm l1) l2) (ho : os.Perm (l2.map (·.1))) (hn : nl.Perm (newsOf l2)) : followF l1 os nl = none := by
  refine follow_none.mpr ⟨fun z hz h => ?_, fun z hz h => ?_⟩
  · rcases (beh_mem g1 f1).mp (f2.olds z (ho.mem_iff.mp hz)) with h | ⟨_, h'⟩
    · exact h
    · exact absurd h h'
  · exact ho.mem_iff.mpr (f2.news z (hn.mem_iff.mp hz) ((beh_mem g1 f1).mpr (.inl h)))
theorem Fit.fitF {nm os nl : List Str} {lv : Prs} (f : Fit nm lv) (ho : os.Perm (lv.map (·.1))) (hn : nl.Perm (newsOf lv)) : fitF os nl nm = none := by
  have e1 : os.find? (lostP nm) = none := List.find?_eq_none.mpr fun z hz => by
    unfold lostP
    simpa using f.olds z (ho.mem_iff.mp hz)
  have e2 : nl.find? (takenP os nm) = none := List.find?_eq_none.mpr fun z hz => by
    unfold takenP
    simp only [Bool.and_eq_true, decide_eq_true_eq, Bool.not_eq_true', decide_eq_false_iff_not, not_and]
    exact fun h h' => h' (ho.mem_iff.mpr (f.news z (hn.mem_iff.mp hz) h))
  unfold Nn.fitF
  rw [e1]
  dsimp only
  rw [e2]
theorem beh_nodup' {nm : List Str} {lv : Prs} (g : Good lv) (f : Fit nm lv) (nn : nm.Nodup) : (behN nm lv).Nodup :=
  beh_nodup (List.Perm.refl _) g.oldsNd (List.Perm.refl _) g.newsNd nn (f.fitF (List.Perm.refl _) (List.Perm.refl _))
/-- the join leads every name as both do, one behind the other -/
theorem toO_join {nm : List Str} {l1 l2 : Prs} (g1 : Good l1) (g2 : Good l2) (gj : Good (joinP l1 l2)) (f1 : Fit nm l1) {z : Str} (hz : z ∈ nm) : toO (joinP l1 l2) z = (toO l1 z).bind (toO l2) := by
  by_cases h : z ∈ l1.map (·.1)
  · obtain ⟨o, ho⟩ := olds_mem.mp h
    rw [toO_mem g1.oldsNd ho]
    exact toO_mem gj.oldsNd (e := (z, o.bind (toO l2))) (List.mem_append_left _ (List.mem_map.mpr ⟨_, ho, rfl⟩))
  · rw [toO_out h]
    show _ = toO l2 z
    have hn : z ∉ newsOf l1 := fun hn => h (f1.news z hn hz)
    by_cases h2 : z ∈ l2.map (·.1)
    · obtain ⟨o, ho⟩ := olds_mem.mp h2
      rw [toO_mem g2.oldsNd ho]
      exact toO_mem gj.oldsNd (e := (z, o)) (List.mem_append_right _ (List.mem_filter.mpr ⟨ho, by simpa using hn⟩))
    · rw [toO_out h2]
      refine toO_out fun hm => ?_
      rw [join_fst, List.mem_append] at hm
      rcases hm with hm | hm
      · exact h hm
      · exact h2 ((List.filter_sublist.map _).subset hm)
theorem behN_join {nm : List Str} {l1 l2 : Prs} (g1 : Good l1) (g2 : Good l2) (gj : Good (joinP l1 l2)) (f1 : Fit nm l1) : behN nm (joinP l1 l2) = behN (behN nm l1) l2 := by
  unfold behN
  rw [List.filterMap_filterMap]
  have : ∀ l : List Str, (∀ z ∈ l, z ∈ nm) → l.filterMap (toO (joinP l1 l2)) = l.filterMap fun z => (toO l1 z).bind (toO l2) := by
    intro l
    induction l with
    | nil => intro _; rfl
    | cons z r ih =>
      intro h
      simp only [List.filterMap_cons, toO_join g1 g2 gj f1 (h z List.mem_cons_self), ih fun y hy => h y (List.mem_cons_of_mem _ hy)]
  exact this nm fun _ h => h
theorem behF_join {td : List (Str × V)} {l1 l2 : Prs} (g1 : Good l1) (g2 : Good l2) (gj : Good (joinP l1 l2)) (f1 : Fit (td.map (·.1)) l1) : behF td (joinP l1 l2) = behF (behF td l1) l2 := by
  unfold behF
  rw [List.filterMap_filterMap]
  have : ∀ l : List (Str × V), (∀ e ∈ l, e.1 ∈ td.map (·.1)) → (l.filterMap fun e => (toO (joinP l1 l2) e.1).map fun z => (z, e.2)) = l.filterMap fun e => ((toO l1 e.1).map fun z => (z, e.2)).bind fun e => (toO l2 e.1).map fun z => (z, e.2) := by
    intro l
    induction l with
    | nil => intro _; rfl
    | cons e r ih =>
      intro h
      have e1 : ((toO (joinP l1 l2) e.1).map fun z => (z, e.2)) = ((toO l1 e.1).map fun z => (z, e.2)).bind fun e => (toO l2 e.1).map fun z => (z, e.2) := by
        rw [toO_join g1 g2 gj f1 (h e List.mem_cons_self)]
        cases toO l1 e.1 <;> rfl
      simp only [List.filterMap_cons, e1, ih fun y hy => h y (List.mem_cons_of_mem _ hy)]
  exact this td fun e he => List.mem_map_of_mem (f := Prod.fst) he
theorem fit_join {nm : List Str} {l1 l2 : Prs} (g1 : Good l1) (g2 : Good l2) (f1 : Fit nm l1) (f2 : Fit (behN nm l1) l2) : Fit nm (joinP l1 l2) := by
  refine ⟨fun z hz => ?_, fun z hz hm => ?_⟩
  · rw [join_fst, List.mem_append] at hz
    rcases hz with hz | hz
    · exact f1.olds z hz
    · obtain ⟨e, he, rfl⟩ := List.mem_map.mp hz
      have he := List.mem_filter.mp he
      have hn : e.1 ∉ newsOf l1 := by simpa using he.2
      rcases (beh_mem g1 f1).mp (f2.olds _ (List.mem_map_of_mem (f := Prod.fst) he.1)) with h | h
      · exact absurd h hn
      · exact h.1
  · rw [join_fst, List.mem_append]
    by_cases h : z ∈ l1.map (·.1)
    · exact .inl h
    · have hn : z ∉ newsOf l1 := fun hn => h (f1.news z hn hm)
      have hb : z ∈ behN nm l1 := (beh_mem g1 f1).mpr (.inr ⟨hm, h⟩)
      have h2 : z ∈ newsOf l2 := by
        rw [join_news, List.mem_append] at hz
        rcases hz with hz | hz
        · obtain ⟨n, hn', h'⟩ := List.mem_filterMap.mp hz
          rcases toO_some h' with h' | ⟨_, e⟩
          · exact newsOf_mem.mpr ⟨_, h'⟩
          · exact absurd (e ▸ hn') hn
        · exact (List.filter_sublist.filterMap _).subset hz
      obtain ⟨o, ho⟩ := olds_mem.mp (f2.news z h2 hb)
      exact .inr (List.mem_map.mpr ⟨_, List.mem_filter.mpr ⟨ho, by simpa using hn⟩, rfl⟩)
theorem join_assoc {nm : List Str} {l1 l2 l3 : Prs} (g1 : Good l1) (g2 : Good l2) (g3 : Good l3) (g23 : Good (joinP l2 l3)) (f1 : Fit nm l1) (f2 : Fit (behN nm l1) l2) (f3 : Fit (behN (behN nm l1) l2) l3) :
    joinP (joinP l1 l2) l3 = joinP l1 (joinP l2 l3) := by
  have hk : ∀ z ∈ l3.map (·.1), (z ∈ newsOf (joinP l1 l2) ↔ z ∈ newsOf l1 ∨ z ∈ newsOf l2) := by
    intro z hz3
    rw [join_news, List.mem_append]
    constructor
    · rintro (h | h)
      · obtain ⟨n, hn', h'⟩ := List.mem_filterMap.mp h
        rcases toO_some h' with h' | ⟨_, e⟩
        · exact .inr (newsOf_mem.mpr ⟨_, h'⟩)
        · exact .inl (e ▸ hn')
      · exact .inr ((List.filter_sublist.filterMap _).subset h)
    · have k2 : z ∈ newsOf l2 → z ∈ (newsOf l1).filterMap (toO l2) ∨ z ∈ newsOf (l2.filter fun e => !decide (e.1 ∈ newsOf l1)) := by
        intro h
        obtain ⟨o, ho⟩ := newsOf_mem.mp h
        by_cases hn : o ∈ newsOf l1
        · exact .inl (List.mem_filterMap.mpr ⟨o, hn, toO_mem g2.oldsNd ho⟩)
        · exact .inr (newsOf_mem.mpr ⟨o, List.mem_filter.mpr ⟨ho, by simpa using hn⟩⟩)
      rintro (h | h)
      · by_cases h2 : z ∈ l2.map (·.1)
        · rcases (beh_mem g2 f2).mp (f3.olds z hz3) with h' | ⟨_, h'⟩
          · exact k2 h'
          · exact absurd h2 h'
        · exact .inl (List.mem_filterMap.mpr ⟨z, h, toO_out h2⟩)
      · exact k2 h
  have e1 : ((l1.map fun e => (e.1, e.2.bind (toO l2))).map fun e => (e.1, e.2.bind (toO l3))) = l1.map fun e => (e.1, e.2.bind (toO (joinP l2 l3))) := by
    rw [List.map_map]
    refine List.map_congr_left fun e he => ?_
    show (e.1, (e.2.bind (toO l2)).bind (toO l3)) = (e.1, e.2.bind (toO (joinP l2 l3)))
    cases h : e.2 with
    | none => rfl
    | some n =>
      show (e.1, (toO l2 n).bind (toO l3)) = (e.1, toO (joinP l2 l3) n)
      rw [toO_join g2 g3 g23 f2 ((beh_mem g1 f1).mpr (.inl (newsOf_mem.mpr ⟨e.1, by rw [← h]; exact he⟩)))]
  have e2 : ((l2.filter fun e => !decide (e.1 ∈ newsOf l1)).map fun e => (e.1, e.2.bind (toO l3))) = (l2.map fun e => (e.1, e.2.bind (toO l3))).filter fun e => !decide (e.1 ∈ newsOf l1) := by
    rw [List.filter_map]; rfl
  have e3 : (l3.filter fun e => !decide (e.1 ∈ newsOf (joinP l1 l2))) = (l3.filter fun e => !decide (e.1 ∈ newsOf l2)).filter fun e => !decide (e.1 ∈ newsOf l1) := by
    rw [List.filter_filter]
    refine List.filter_congr fun e he => ?_
    have h := hk e.1 (List.mem_map_of_mem (f := Prod.fst) he)
    rw [show decide (e.1 ∈ newsOf (joinP l1 l2)) = decide (e.1 ∈ newsOf l1 ∨ e.1 ∈ newsOf l2) from decide_eq_decide.mpr h, Bool.decide_or, Bool.not_or]
  show ((l1.map fun e => (e.1, e.2.bind (toO l2))) ++ l2.filter fun e => !decide (e.1 ∈ newsOf l1)).map (fun e => (e.1, e.2.bind (toO l3))) ++ (l3.filter fun e => !decide (e.1 ∈ newsOf (joinP l1 l2))) =
    (l1.map fun e => (e.1, e.2.bind (toO (joinP l2 l3)))) ++ ((l2.map fun e => (e.1, e.2.bind (toO l3))) ++ l3.filter fun e => !decide (e.1 ∈ newsOf l2)).filter fun e => !decide (e.1 ∈ newsOf l1)
  rw [List.map_append, e1, e2, e3, List.filter_append, List.append_assoc]
theorem toO_bind_perm {lv lw : Prs} (g : Good lw) (h : lv.Perm lw) (o : Option Str) : o.bind (toO lv) = o.bind (toO lw) := by
  cases o with
  | none => rfl
  | some z => exact toO_perm g.oldsNd h z
theorem join_perm {l1 l2 m1 m2 : Prs} (g2 : Good m2) (h1 : l1.Perm m1) (h2 : l2.Perm m2) : (joinP l1 l2).Perm (joinP m1 m2) := by
  unfold joinP
  have e1 : l1.map (fun e => (e.1, e.2.bind (toO l2))) = l1.map fun e => (e.1, e.2.bind (toO m2)) := List.map_congr_left fun e _ => by rw [toO_bind_perm g2 h2]
  have e2 : (l2.filter fun e => !decide (e.1 ∈ newsOf l1)) = l2.filter fun e => !decide (e.1 ∈ newsOf m1) := List.filter_congr fun e _ => by
    rw [show decide (e.1 ∈ newsOf l1) = decide (e.1 ∈ newsOf m1) from decide_eq_decide.mpr (h1.filterMap _).mem_iff]
  rw [e1, e2]
  exact (h1.map _).append (h2.filter _)
theorem behF_perm {td : List (Str × V)} {lv lw : Prs} (g : Good lw) (h : lv.Perm lw) : behF td lv = behF td lw := by
  unfold behF
  rw [show (fun e : Str × V => (toO lv e.1).map fun z => (z, e.2)) = fun e => (toO lw e.1).map fun z => (z, e.2) from funext fun e => by rw [toO_perm g.oldsNd h]]
theorem behN_perm {nm : List Str} {lv lw : Prs} (g : Good lw) (h : lv.Perm lw) : behN nm lv = behN nm lw := by
  unfold behN
  rw [show toO lv = toO lw from funext fun z => toO_perm g.oldsNd h z]
theorem behN_keys (td : List (Str × V)) (lv : Prs) : (behF td lv).map (·.1) = behN (td.map (·.1)) lv := by
  rw [behF_keys]
  unfold behN
  rw [List.filterMap_map]; rfl
theorem fit_pairs {ps : List Str} {td : List (Str × V)} {prs : Prs} (h : Pairs ps td prs) : Fit (td.map (·.1)) prs := ⟨h.olds, fun z hz hm => (h.news z hz).2 hm⟩
theorem things_beh {ps : List Str} {td : List (Str × V)} {prs : Prs} (hp : Pool ps) (ht : Things ps td) (h : Pairs ps td prs) : Things ps (behF td prs) := by
  have g := good_pairs hp ht h
  have f := fit_pairs h
  refine ⟨?_, fun z hz => ?_, ?_, fun e he => ?_⟩
  · rw [behN_keys]; exact beh_nodup' g f ht.nd
  · rw [behN_keys] at hz
    rcases (beh_mem g f).mp hz with h' | ⟨h', _⟩
    · exact (h.news z h').1
    · exact ht.sub z h'
  · unfold behF
    exact Nat.le_trans (List.length_filterMap_le _ _) ht.len
  · unfold behF at he
    obtain ⟨x, hx, h'⟩ := List.mem_filterMap.mp he
    obtain ⟨z, _, rfl⟩ := Option.map_eq_some_iff.mp h'
    exact ht.sc x hx
end Nn

namespace Nn
open PySem PySem.Spec PyProof.Rows L2
/-! ### deeds, played one by one: the data -/
abbrev HeldF := Str → Option V
def stepG (g : HeldF) : List Str → Option HeldF
  | [k, c] => if k = "drop" ∧ (g c).isSome = true then some fun z => if z = c then none else g z else none
  | [k, c, a] => if k = "move" ∧ (g c).isSome = true ∧ g a = none then some fun z => if z = c then none else if z = a then g c else g z else none
  | _ => none
def playG : HeldF → List (List Str) → Option HeldF
  | g, [] => some g
  | g, d :: ds => match stepG g d with
    | some g' => playG g' ds
    | none => none
theorem play_app : ∀ {ds es : List (List Str)} {g g' : HeldF}, playG g ds = some g' → playG g (ds ++ es) = playG g' es
  | [], es, g, g', h => by cases h; rfl
  | d :: ds, es, g, g', h => by
    have h : (match stepG g d with | some g' => playG g' ds | none => none) = some g' := h
    show (match stepG g d with | some g' => playG g' (ds ++ es) | none => none) = _
    cases hs : stepG g d with
    | none => rw [hs] at h; cases h
    | some g1 => rw [hs] at h; exact play_app h
theorem play_cons {d : List Str} {ds : List (List Str)} {g g' : HeldF} (h : stepG g d = some g') : playG g (d :: ds) = playG g' ds := by
  show (match stepG g d with | some g' => playG g' ds | none => none) = _
  rw [h]
/-- where the names of S have gone their way by f -/
def gone (g : HeldF) (f : Str → Option Str) (S : List Str) : HeldF := fun y => match S.find? (fun c => decide (f c = some y)) with
  | some c => g c
  | none => if y ∈ S then none else g y
section
variable {g : HeldF} {f : Str → Option Str} {S T l r : List Str} {a b c y z : Str}
theorem gone_come (inj : Inj f) (hc : c ∈ S) (h : f c = some y) : gone g f S y = g c := by
  unfold gone
  cases e : S.find? (fun c => decide (f c = some y)) with
  | some c' =>
    have h' : f c' = some y := of_decide_eq_true (List.find?_some (p := fun c => decide (f c = some y)) e)
    rw [inj _ _ _ h h']
  | none => exact absurd (decide_eq_true h) (List.find?_eq_none.mp e c hc)
theorem gone_find (h : ∀ c ∈ S, f c ≠ some y) : S.find? (fun c => decide (f c = some y)) = none := List.find?_eq_none.mpr fun c hc e => h c hc (of_decide_eq_true e)
theorem gone_left (h : ∀ c ∈ S, f c ≠ some y) (hy : y ∈ S) : gone g f S y = none := by
  unfold gone
  rw [gone_find h]
  exact if_pos hy
theorem gone_stay (h : ∀ c ∈ S, f c ≠ some y) (hy : y ∉ S) : gone g f S y = g y := by
  unfold gone
  rw [gone_find h]
  exact if_neg hy
theorem gone_nil : gone g f [] = g := funext fun y => gone_stay (by simp) (by simp)
theorem gone_cases (inj : Inj f) (S : List Str) (y : Str) : (∃ c ∈ S, f c = some y) ∨ (∀ c ∈ S, f c ≠ some y) := by
  by_cases h : ∃ c ∈ S, f c = some y
  · exact .inl h
  · exact .inr fun c hc e => h ⟨c, hc, e⟩
theorem gone_congr (inj : Inj f) (h : ∀ c, c ∈ S ↔ c ∈ T) : gone g f S = gone g f T := funext fun y => by
  rcases gone_cases inj S y with ⟨c, hc, e⟩ | h1
  · rw [gone_come inj hc e, gone_come inj ((h c).mp hc) e]
  · have h2 : ∀ c ∈ T, f c ≠ some y := fun c hc => h1 c ((h c).mpr hc)
    by_cases hy : y ∈ S
    · rw [gone_left h1 hy, gone_left h2 ((h y).mp hy)]
    · rw [gone_stay h1 hy, gone_stay h2 (fun e => hy ((h y).mpr e))]
/-- a name may go -/
structure MayGo (g : HeldF) (f : Str → Option Str) (S : List Str) (c : Str) : Prop where
  new : c ∉ S
  held : (g c).isSome = true
  free : ∀ x ∈ S, f x ≠ some c
theorem MayGo.at (m : MayGo g f S c) : gone g f S c = g c := gone_stay m.free m.new
theorem MayGo.cons (m : MayGo g f S c) (hb : b ≠ c) (hf : f b ≠ some c) : MayGo g f (b :: S) c :=
  ⟨fun h => (List.mem_cons.mp h).elim (fun e => hb e.symm) m.new, m.held, fun x hx => (List.mem_cons.mp hx).elim (fun e => e ▸ hf) (m.free x)⟩
theorem move_step (inj : Inj f) (m : MayGo g f S c) (hf : f c = some a) (hac : a ≠ c) (ha : a ∈ S ∨ g a = none) : stepG (gone g f S) (mvD c a) = some (gone g f (c :: S)) := by
  have na : ∀ x ∈ S, f x ≠ some a := fun x hx e => m.new (inj _ _ _ e hf ▸ hx)
  have ga : gone g f S a = none := by
    by_cases h : a ∈ S
    · exact gone_left na h
    · rw [gone_stay na h]; exact ha.resolve_left h
  show (if ("move" : Str) = "move" ∧ (gone g f S c).isSome = true ∧ gone g f S a = none then some (fun z => if z = c then none else if z = a then gone g f S c else gone g f S z) else none) = _
  rw [if_pos ⟨rfl, by rw [m.at]; exact m.held, ga⟩]
  refine congrArg some (funext fun y => ?_)
  by_cases h1 : y = c
  · rw [if_pos h1, h1]
    refine (gone_left (fun x hx e => ?_) List.mem_cons_self).symm
    rcases List.mem_cons.mp hx with q | hx
    · rw [q, hf] at e; exact hac (Option.some.inj e)
    · exact m.free x hx e
  rw [if_neg h1]
  by_cases h2 : y = a
  · rw [if_pos h2, h2, m.at]
    exact (gone_come inj List.mem_cons_self hf).symm
  rw [if_neg h2]
  rcases gone_cases inj S y with ⟨x, hx, e⟩ | hno
  · rw [gone_come inj hx e, gone_come inj (List.mem_cons_of_mem _ hx) e]
  · have hno' : ∀ x ∈ c :: S, f x ≠ some y := fun x hx e => by
      rcases List.mem_cons.mp hx with q | hx
      · rw [q, hf] at e; exact h2 (Option.some.inj e).symm
      · exact hno x hx e
    by_cases hy : y ∈ S
    · rw [gone_left hno hy, gone_left hno' (List.mem_cons_of_mem _ hy)]
    · rw [gone_stay hno hy, gone_stay hno' (fun h => (List.mem_cons.mp h).elim h1 hy)]
theorem drop_step (inj : Inj f) (m : MayGo g f S c) (hf : f c = none) : stepG (gone g f S) (drD c) = some (gone g f (c :: S)) := by
  show (if ("drop" : Str) = "drop" ∧ (gone g f S c).isSome = true then some (fun z => if z = c then none else gone g f S z) else none) = _
  rw [if_pos ⟨rfl, by rw [m.at]; exact m.held⟩]
  refine congrArg some (funext fun y => ?_)
  by_cases h1 : y = c
  · rw [if_pos h1, h1]
    refine (gone_left (fun x hx e => ?_) List.mem_cons_self).symm
    rcases List.mem_cons.mp hx with q | hx
    · rw [q, hf] at e; cases e
    · exact m.free x hx e
  rw [if_neg h1]
  rcases gone_cases inj S y with ⟨x, hx, e⟩ | hno
  · rw [gone_come inj hx e, gone_come inj (List.mem_cons_of_mem _ hx) e]
  · have hno' : ∀ x ∈ c :: S, f x ≠ some y := fun x hx e => by
      rcases List.mem_cons.mp hx with q | hx
      · rw [q, hf] at e; cases e
      · exact hno x hx e
    by_cases hy : y ∈ S
    · rw [gone_left hno hy, gone_left hno' (List.mem_cons_of_mem _ hy)]
    · rw [gone_stay hno hy, gone_stay hno' (fun h => (List.mem_cons.mp h).elim h1 hy)]
/-- the moves up a chain -/
theorem chain_play (inj : Inj f) : ∀ {l S : List Str}, l.Nodup → (∀ i a b, l[i]? = some a → l[i + 1]? = some b → f b = some a) → (∀ a, l[0]? = some a → a ∈ S ∨ g a = none) → (∀ x ∈ l.tail, MayGo g f S x) → playG (gone g f S) (upM l) = some (gone g f (l.tail.reverse ++ S))
  | [], S, _, _, _, _ => rfl
  | [x], S, _, _, _, _ => rfl
  | a :: b :: r, S, nd, st, h0, hm => by
    have hf : f b = some a := st 0 a b rfl rfl
    have nd1 := List.nodup_cons.mp nd
    have nd2 := List.nodup_cons.mp nd1.2
    have hab : a ≠ b := fun e => nd1.1 (e ▸ List.mem_cons_self)
    show playG (gone g f S) (mvD b a :: upM (b :: r)) = _
    rw [play_cons (move_step inj (hm b List.mem_cons_self) hf hab (h0 a rfl))]
    have := chain_play inj (l := b :: r) (S := b :: S) nd1.2 (fun i x y hx hy => st (i + 1) x y hx hy) (fun x hx => by cases hx; exact .inl List.mem_cons_self)
      (fun x hx => (hm x (List.mem_cons_of_mem _ hx)).cons (fun e => nd2.1 (e ▸ hx)) (fun e => by
        rw [hf] at e
        exact nd1.1 (Option.some.inj e ▸ List.mem_cons_of_mem _ hx)))
    rw [this]
    show some (gone g f (r.reverse ++ b :: S)) = some (gone g f ((b :: r).reverse ++ S))
    rw [List.reverse_cons, List.append_assoc]; rfl
theorem upM_range : ∀ m : List Str, upM m = (List.range (m.length - 1)).map fun i => mvD (m.getD (i + 1) "") (m.getD i "")
  | [] => rfl
  | [x] => rfl
  | x :: y :: r => by
    show mvD y x :: upM (y :: r) = (List.range ((y :: r).length)).map _
    rw [upM_range (y :: r), List.length_cons, List.range_succ_eq_map, List.map_cons, List.map_map]
    rfl
theorem ringD_up {s : Str} {r : List Str} (hr : 0 < r.length) : ringD s r = upM (s :: r.reverse) ++ [mvD s (r.getD 0 "")] := by
  have hget : ∀ i, i < r.length → r.reverse.getD i "" = r.getD (r.length - 1 - i) "" := fun i hi => by
    rw [List.getD_eq_getElem?_getD, List.getD_eq_getElem?_getD, List.getElem?_reverse hi]
  have e1 : upM (s :: r.reverse) = mvD (r.reverse.getD 0 "") s :: upM r.reverse := by
    cases h : r.reverse with
    | nil => rw [List.reverse_eq_nil_iff] at h; rw [h] at hr; cases hr
    | cons x t => rfl
  unfold ringD
  rw [e1, hget 0 hr, upM_range, List.length_reverse, List.cons_append]
  have mp : (List.range (r.length - 1)).map (stepR r) = (List.range (r.length - 1)).map fun i => mvD (r.reverse.getD (i + 1) "") (r.reverse.getD i "") := List.map_congr_left fun i hi => by
    have hi := List.mem_range.mp hi
    unfold stepR
    rw [hget i (by omega), hget (i + 1) (by omega), show r.length - 1 - (i + 1) = r.length - 2 - i by omega]
  rw [mp, Nat.sub_zero]
/-- a ring, by way of a free name -/
theorem ring_play (inj : Inj f) {s : Str} (cy : Cyc f z r) (hl : 1 < r.length) (hs : g s = none) (hsS : s ∉ S) (hsr : s ∉ r) (hsf : ∀ c, f c ≠ some s) (hm : ∀ x ∈ r, MayGo g f S x) : playG (gone g f S) (ringD s r) = some (gone g f (r ++ S)) := by
  obtain ⟨b, hb, hbz⟩ := cy.cl
  have hbr : b ∈ r := List.mem_of_getElem? (last_at ▸ hb)
  have hbS := (hm b hbr).new
  let f' : Str → Option Str := fun x => if x = b then some s else f x
  have f'b : f' b = some s := if_pos rfl
  have f'n : ∀ {x}, x ≠ b → f' x = f x := fun h => if_neg h
  have inj' : Inj f' := fun x y c hx hy => by
    by_cases h1 : x = b
    · by_cases h2 : y = b
      · rw [h1, h2]
      · rw [h1, f'b] at hx
        rw [f'n h2] at hy
        cases hx
        exact absurd hy (hsf y)
    · rw [f'n h1] at hx
      by_cases h2 : y = b
      · rw [h2, f'b] at hy
        cases hy
        exact absurd hx (hsf x)
      · rw [f'n h2] at hy
        exact inj _ _ _ hx hy
  have gS : gone g f S = gone g f' S := funext fun y => by
    have hx : ∀ c ∈ S, f' c = f c := fun c hc => f'n fun e => hbS (e ▸ hc)
    rcases gone_cases inj S y with ⟨c, hc, e⟩ | h1
    · rw [gone_come inj hc e, gone_come inj' hc ((hx c hc).trans e)]
    · have h2 : ∀ c ∈ S, f' c ≠ some y := fun c hc => by rw [hx c hc]; exact h1 c hc
      by_cases hy : y ∈ S
      · rw [gone_left h1 hy, gone_left h2 hy]
      · rw [gone_stay h1 hy, gone_stay h2 hy]
  have hrl : r.reverse[0]? = some b := by
    rw [List.getElem?_reverse (by omega), ← hb, last_at]; congr 1
  have P1 := chain_play (g := g) inj' (l := s :: r.reverse) (S := S) (List.nodup_cons.mpr ⟨fun h => hsr (List.mem_reverse.mp h), (List.reverse_perm r).nodup_iff.mpr cy.nd⟩)
    (fun i x y hx hy => by
      cases i with
      | zero =>
        cases hx
        have hy : r.reverse[0]? = some y := hy
        rw [hrl] at hy
        cases hy
        exact f'b
      | succ i =>
        have hx : r.reverse[i]? = some x := hx
        have hy : r.reverse[i + 1]? = some y := hy
        have hi := (List.getElem?_eq_some_iff.mp hy).1
        rw [List.length_reverse] at hi
        rw [List.getElem?_reverse (by omega)] at hx hy
        have hne : y ≠ b := fun e => by
          rw [e] at hy
          have hb' : r[r.length - 1]? = some b := by rw [← last_at]; exact hb
          have := nd_ix cy.nd hy hb'
          omega
        rw [f'n hne]
        exact cy.st _ _ _ hy (by rw [show r.length - 1 - (i + 1) + 1 = r.length - 1 - i by omega]; exact hx))
    (fun a ha => by cases ha; exact .inr hs)
    (fun x hx => by
      have hx : x ∈ r := List.mem_reverse.mp hx
      have m := hm x hx
      exact ⟨m.new, m.held, fun c hc => by rw [f'n (fun e => hbS (e ▸ hc))]; exact m.free c hc⟩)
  have ez : r.getD 0 "" = z := by rw [List.getD_eq_getElem?_getD, cy.hd]; rfl
  rw [ringD_up cy.toRun.pos, gS, play_app P1, ez]
  have e1 : (s :: r.reverse).tail.reverse ++ S = r ++ S := by rw [List.tail_cons, List.reverse_reverse]
  rw [e1]
  have hzr : z ∈ r := cy.toRun.mem
  have hsz : s ≠ z := fun e => hsr (e ▸ hzr)
  have hbin : b ∈ r ++ S := List.mem_append_left _ hbr
  have g1 : gone g f' (r ++ S) s = g b := gone_come inj' hbin f'b
  have nz : ∀ c ∈ r ++ S, f' c ≠ some z := fun c _ e => by
    by_cases h : c = b
    · rw [h, f'b] at e; exact hsz (Option.some.inj e)
    · rw [f'n h] at e
      exact h (inj _ _ _ e hbz)
  have g2 : gone g f' (r ++ S) z = none := gone_left nz (List.mem_append_left _ hzr)
  have hgb := (hm b hbr).held
  show (match (if ("move" : Str) = "move" ∧ (gone g f' (r ++ S) s).isSome = true ∧ gone g f' (r ++ S) z = none then some (fun y => if y = s then none else if y = z then gone g f' (r ++ S) s else gone g f' (r ++ S) y) else none) with | some g' => playG g' [] | none => none) = _
  rw [if_pos ⟨rfl, by rw [g1]; exact hgb, g2⟩]
  show some _ = some _
  refine congrArg some (funext fun y => ?_)
  by_cases h1 : y = s
  · rw [if_pos h1, h1]
    rw [gone_stay (fun c _ => hsf c) (fun h => (List.mem_append.mp h).elim hsr hsS), hs]
  rw [if_neg h1]
  by_cases h2 : y = z
  · rw [if_pos h2, h2, g1, gone_come inj hbin hbz]
  rw [if_neg h2]
  have same : ∀ c, f' c = some y ↔ f c = some y := fun c => by
    by_cases h : c = b
    · rw [h, f'b, hbz]
      exact ⟨fun e => absurd (Option.some.inj e).symm h1, fun e => absurd (Option.some.inj e).symm h2⟩
    · rw [f'n h]
  rcases gone_cases inj (r ++ S) y with ⟨c, hc, e⟩ | h3
  · rw [gone_come inj hc e, gone_come inj' hc ((same c).mpr e)]
  · have h4 : ∀ c ∈ r ++ S, f' c ≠ some y := fun c hc e => h3 c hc ((same c).mp e)
    by_cases hy : y ∈ r ++ S
    · rw [gone_left h3 hy, gone_left h4 hy]
    · rw [gone_stay h3 hy, gone_stay h4 hy]
end
end Nn

namespace Nn
open PySem PySem.Spec PyProof.Rows L2
/-! ### all deeds of a plan, played -/
section
variable {g : HeldF} {f : Str → Option Str} {S T l r : List Str} {a b c x y z : Str} {lv : Prs}
theorem all_ex (g : Good lv) (hz : toOf lv z = none) : ∀ (k : Nat) (l : List Str), UpRun (toOf lv) z l → lv.length + 1 - l.length ≤ k → ∃ m, UpAll (toOf lv) z m
  | k, l, r, hk => by
    obtain ⟨a, ha⟩ := r.last
    by_cases h : ∃ c, toOf lv c = some a
    · obtain ⟨c, hc⟩ := h
      have r' := r.snoc hz ha hc
      have := upAll_len r'
      rw [List.length_append, List.length_singleton] at this
      cases k with
      | zero => omega
      | succ k => exact all_ex g hz k _ r' (by rw [List.length_append, List.length_singleton]; omega)
    · exact ⟨l, r, fun a' c ha' e => by rw [ha] at ha'; cases ha'; exact h ⟨c, e⟩⟩
theorem upAt_all (g : Good lv) (hz : toOf lv z = none) : UpAll (toOf lv) z (upAt (toOf lv) z) := by
  obtain ⟨m, h⟩ := all_ex g hz _ [z] .one (Nat.le_refl _)
  rw [upAt_eq (toOf_inj g) h]
  exact h
theorem UpAll.next (inj : Inj f) (u : UpAll f z l) (hx : x ∈ l) (e : f c = some x) : c ∈ l := by
  obtain ⟨i, hi⟩ := List.getElem?_of_mem hx
  have hil := (List.getElem?_eq_some_iff.mp hi).1
  by_cases h : i + 1 < l.length
  · have h2 : l[i + 1]? = some l[i + 1] := List.getElem?_eq_getElem h
    rw [inj _ _ _ e (u.st i _ _ hi h2)]
    exact List.getElem_mem h
  · exact absurd e (u.fin x c (by rw [last_at, show l.length - 1 = i by omega]; exact hi))
/-- two chains that meet are one -/
theorem up_same (u : UpRun f z l) (hz : f z = none) {z' : Str} {m : List Str} (u' : UpRun f z' m) (hz' : f z' = none) : ∀ (i : Nat) (x : Str), l[i]? = some x → x ∈ m → z = z' := by
  intro i
  induction i with
  | zero =>
    intro x hx hm
    rw [u.hd] at hx
    cases hx
    obtain ⟨j, hj⟩ := List.getElem?_of_mem hm
    cases j with
    | zero => rw [u'.hd] at hj; exact (Option.some.inj hj).symm
    | succ j =>
      have hjl := (List.getElem?_eq_some_iff.mp hj).1
      have := u'.st j _ _ (List.getElem?_eq_getElem (by omega)) hj
      rw [hz] at this; cases this
  | succ i ih =>
    intro x hx hm
    have hil := (List.getElem?_eq_some_iff.mp hx).1
    have e1 := u.st i _ _ (List.getElem?_eq_getElem (by omega)) hx
    obtain ⟨j, hj⟩ := List.getElem?_of_mem hm
    cases j with
    | zero => rw [u'.hd] at hj; cases hj; rw [hz'] at e1; cases e1
    | succ j =>
      have hjl := (List.getElem?_eq_some_iff.mp hj).1
      have e2 := u'.st j _ _ (List.getElem?_eq_getElem (by omega)) hj
      rw [e1] at e2
      have e2 := Option.some.inj e2
      exact ih (l[i]'(by omega)) (List.getElem?_eq_getElem (by omega)) (by rw [e2]; exact List.getElem_mem (by omega))
theorem UpRun.mem_same (u : UpRun f z l) (hz : f z = none) {z' : Str} {m : List Str} (u' : UpRun f z' m) (hz' : f z' = none) (h1 : x ∈ l) (h2 : x ∈ m) : z = z' := by
  obtain ⟨i, hi⟩ := List.getElem?_of_mem h1
  exact up_same u hz u' hz' i x hi h2
/-- no chain meets a ring -/
theorem up_ring (u : UpRun f z l) (hz : f z = none) {z' : Str} (cy : Cyc f z' r) : ∀ (i : Nat) (x : Str), l[i]? = some x → x ∉ r := by
  intro i
  induction i with
  | zero =>
    intro x hx hr
    rw [u.hd] at hx
    cases hx
    obtain ⟨y, _, e⟩ := cy.next hr
    rw [hz] at e; cases e
  | succ i ih =>
    intro x hx hr
    have hil := (List.getElem?_eq_some_iff.mp hx).1
    have e1 := u.st i _ _ (List.getElem?_eq_getElem (by omega)) hx
    obtain ⟨y, hy, e⟩ := cy.next hr
    rw [e1] at e
    cases e
    exact ih _ (List.getElem?_eq_getElem (by omega)) hy
/-- where an entry's chain begins; the names that go there -/
def stOf (lv : Prs) (e : Str × Option Str) : Option Str := match e.2 with
  | none => some e.1
  | some n => if n ∈ lv.map (·.1) then none else some n
noncomputable def mvOf (lv : Prs) (e : Str × Option Str) : List Str := match e.2 with
  | none => upAt (toOf lv) e.1
  | some n => if n ∈ lv.map (·.1) then [] else (upAt (toOf lv) n).tail
theorem stOf_none (gd : Good lv) {e : Str × Option Str} (he : e ∈ lv) (h : stOf lv e = some z) : toOf lv z = none := by
  unfold stOf at h
  cases hn : e.2 with
  | none =>
    rw [hn] at h
    cases h
    rw [toOf_mem gd.oldsNd he]; exact hn
  | some n =>
    rw [hn] at h
    have h : (if n ∈ lv.map (·.1) then none else some n) = some z := h
    split at h
    · cases h
    · rename_i hno
      cases h
      cases hq : toOf lv z with
      | none => rfl
      | some b => exact absurd (toOf_key _ _ hq) hno
theorem mvOf_up {e : Str × Option Str} (h : x ∈ mvOf lv e) : ∃ z, stOf lv e = some z ∧ x ∈ upAt (toOf lv) z := by
  unfold mvOf at h
  unfold stOf
  cases hn : e.2 with
  | none => rw [hn] at h; exact ⟨e.1, rfl, h⟩
  | some n =>
    rw [hn] at h
    have h : x ∈ (if n ∈ lv.map (·.1) then [] else (upAt (toOf lv) n).tail) := h
    split at h
    · cases h
    · rename_i hno
      exact ⟨n, if_neg hno, List.mem_of_mem_tail h⟩
theorem tail_old (u : UpRun (toOf lv) z l) (hx : x ∈ l.tail) : x ∈ lv.map (·.1) := by
  obtain ⟨i, hi⟩ := List.getElem?_of_mem hx
  rw [List.getElem?_tail] at hi
  have hil := (List.getElem?_eq_some_iff.mp hi).1
  exact toOf_key _ _ (u.st i _ _ (List.getElem?_eq_getElem (by omega)) hi)
theorem mvOf_old (gd : Good lv) {e : Str × Option Str} (he : e ∈ lv) (h : x ∈ mvOf lv e) : x ∈ lv.map (·.1) := by
  obtain ⟨z, hz, _⟩ := mvOf_up h
  have hzn := stOf_none gd he hz
  unfold mvOf at h
  unfold stOf at hz
  cases hn : e.2 with
  | none =>
    rw [hn] at h hz
    cases hz
    have u := upAt_all gd hzn
    have h : x ∈ upAt (toOf lv) e.1 := h
    cases hl : upAt (toOf lv) e.1 with
    | nil => rw [hl] at h; cases h
    | cons a t =>
      have hh := u.hd
      rw [hl] at h hh u
      cases hh
      rcases List.mem_cons.mp h with q | q
      · rw [q]; exact List.mem_map_of_mem he
      · exact tail_old u.toUpRun q
  | some n =>
    rw [hn] at h hz
    have h : x ∈ (if n ∈ lv.map (·.1) then [] else (upAt (toOf lv) n).tail) := h
    split at h
    · cases h
    · rename_i hno
      have hz : (if n ∈ lv.map (·.1) then none else some n) = some z := hz
      rw [if_neg hno] at hz
      cases hz
      exact tail_old (upAt_all gd hzn).toUpRun h
/-- each chain begins elsewhere -/
theorem st_pw (gd : Good lv) : lv.Pairwise fun e e' => ∀ z, stOf lv e = some z → stOf lv e' ≠ some z := by
  have h1 : lv.Pairwise fun e e' => e.1 ≠ e'.1 := List.pairwise_map.mp gd.oldsNd
  have h2 : lv.Pairwise fun e e' => ∀ n, e.2 = some n → e'.2 ≠ some n := by
    have := List.pairwise_filterMap.mp gd.newsNd
    exact this.imp fun {e e'} h n he he' => h n he n he' rfl
  refine (h1.and h2).imp_of_mem fun {e e'} he he' ⟨n1, n2⟩ z hz hz' => ?_
  unfold stOf at hz hz'
  cases hn : e.2 with
  | none =>
    rw [hn] at hz
    cases hz
    cases hn' : e'.2 with
    | none => rw [hn'] at hz'; exact n1 (Option.some.inj hz').symm
    | some n =>
      rw [hn'] at hz'
      have hz' : (if n ∈ lv.map (·.1) then none else some n) = some e.1 := hz'
      split at hz'
      · cases hz'
      · rename_i hno
        cases hz'
        exact hno (List.mem_map_of_mem he)
  | some n =>
    rw [hn] at hz
    have hz : (if n ∈ lv.map (·.1) then none else some n) = some z := hz
    split at hz
    · cases hz
    · rename_i hno
      cases hz
      cases hn' : e'.2 with
      | none =>
        rw [hn'] at hz'
        cases hz'
        exact hno (List.mem_map_of_mem he')
      | some n' =>
        rw [hn'] at hz'
        have hz' : (if n' ∈ lv.map (·.1) then none else some n') = some z := hz'
        split at hz'
        · cases hz'
        · cases hz'
          exact n2 z hn hn'
/-- an entry's deeds -/
theorem entry_play (gd : Good lv) (hk : ∀ x ∈ lv.map (·.1), (g x).isSome = true) (hf : ∀ n ∈ lv.filterMap (·.2), n ∉ lv.map (·.1) → g n = none) {e : Str × Option Str} (he : e ∈ lv) {S : List Str} (hm : ∀ x ∈ mvOf lv e, MayGo g (toOf lv) S x) :
    playG (gone g (toOf lv) S) (chainE lv e) = some (gone g (toOf lv) (S ++ mvOf lv e)) := by
  have inj := toOf_inj gd
  unfold chainE
  unfold mvOf at hm ⊢
  cases hn : e.2 with
  | none =>
    rw [hn] at hm
    have hz : toOf lv e.1 = none := stOf_none gd he (by unfold stOf; rw [hn])
    have u := upAt_all gd hz
    have hm : ∀ x ∈ upAt (toOf lv) e.1, MayGo g (toOf lv) S x := hm
    show playG _ (drD e.1 :: upM (upAt (toOf lv) e.1)) = some (gone g (toOf lv) (S ++ upAt (toOf lv) e.1))
    cases hl : upAt (toOf lv) e.1 with
    | nil => have := u.hd; rw [hl] at this; cases this
    | cons a t =>
      have hh := u.hd
      rw [hl] at hh hm u
      cases hh
      have nd := List.nodup_cons.mp u.nd
      rw [play_cons (drop_step inj (hm _ List.mem_cons_self) hz), chain_play inj (l := e.1 :: t) (S := e.1 :: S) u.nd u.st (fun a ha => by cases ha; exact .inl List.mem_cons_self) (fun x hx => (hm x (List.mem_cons_of_mem _ hx)).cons (fun q => nd.1 (q ▸ hx)) (by rw [hz]; intro q; cases q))]
      refine congrArg some (gone_congr inj fun c => ?_)
      show c ∈ t.reverse ++ e.1 :: S ↔ c ∈ S ++ e.1 :: t
      simp only [List.mem_append, List.mem_reverse, List.mem_cons]
      exact ⟨fun h => by rcases h with h | h | h <;> simp [h], fun h => by rcases h with h | h | h <;> simp [h]⟩
  | some n =>
    rw [hn] at hm
    have hm : ∀ x ∈ (if n ∈ lv.map (·.1) then [] else (upAt (toOf lv) n).tail), MayGo g (toOf lv) S x := hm
    show playG _ (if n ∈ lv.map (·.1) then [] else upM (upAt (toOf lv) n)) = some (gone g (toOf lv) (S ++ if n ∈ lv.map (·.1) then [] else (upAt (toOf lv) n).tail))
    by_cases hno : n ∈ lv.map (·.1)
    · rw [if_pos hno, if_pos hno, List.append_nil]; rfl
    · rw [if_neg hno] at hm ⊢
      rw [if_neg hno]
      have hz : toOf lv n = none := stOf_none gd he (by unfold stOf; rw [hn]; exact if_neg hno)
      have u := upAt_all gd hz
      rw [chain_play inj (S := S) u.nd u.st (fun a ha => by
        rw [u.hd] at ha
        cases ha
        exact .inr (hf n (List.mem_filterMap.mpr ⟨e, he, hn⟩) hno)) hm]
      refine congrArg some (gone_congr inj fun c => ?_)
      simp only [List.mem_append, List.mem_reverse]
      exact or_comm
theorem mvOf_nd (gd : Good lv) {e : Str × Option Str} (he : e ∈ lv) : (mvOf lv e).Nodup := by
  unfold mvOf
  cases hn : e.2 with
  | none => exact (upAt_all gd (stOf_none gd he (by unfold stOf; rw [hn]))).nd
  | some n =>
    show (if n ∈ lv.map (·.1) then [] else (upAt (toOf lv) n).tail).Nodup
    by_cases hno : n ∈ lv.map (·.1)
    · rw [if_pos hno]; exact List.nodup_nil
    · rw [if_neg hno]
      exact (upAt_all gd (stOf_none gd he (by unfold stOf; rw [hn]; exact if_neg hno))).nd.sublist (List.tail_sublist _)
/-- all chains -/
theorem chains_play (gd : Good lv) (hk : ∀ x ∈ lv.map (·.1), (g x).isSome = true) (hf : ∀ n ∈ lv.filterMap (·.2), n ∉ lv.map (·.1) → g n = none) :
    ∀ n, n ≤ lv.length → playG g ((lv.take n).flatMap (chainE lv)) = some (gone g (toOf lv) ((lv.take n).flatMap (mvOf lv))) ∧ ((lv.take n).flatMap (mvOf lv)).Nodup := by
  intro n
  induction n with
  | zero => exact fun _ => ⟨by rw [show (lv.take 0).flatMap (mvOf lv) = [] from rfl, gone_nil]; rfl, List.nodup_nil⟩
  | succ n ih =>
    intro hn
    obtain ⟨p1, p2⟩ := ih (by omega)
    have htk : lv.take (n + 1) = lv.take n ++ [lv[n]] := by rw [List.take_add_one, List.getElem?_eq_getElem (by omega)]; rfl
    have he : lv[n] ∈ lv := List.getElem_mem _
    have inj := toOf_inj gd
    have far : ∀ e' ∈ lv.take n, ∀ z, stOf lv e' = some z → stOf lv lv[n] ≠ some z := fun e' he' z hz => by
      obtain ⟨i, hi⟩ := List.getElem?_of_mem he'
      have hil := (List.getElem?_eq_some_iff.mp hi).1
      rw [List.length_take] at hil
      rw [List.getElem?_take_of_lt (by omega), List.getElem?_eq_getElem (by omega)] at hi
      have := List.pairwise_iff_getElem.mp (st_pw gd) i n (by omega) (by omega) (by omega)
      rw [Option.some.inj hi] at this
      exact this z hz
    have sep : ∀ {x y : Str} {z : Str}, stOf lv lv[n] = some z → x ∈ upAt (toOf lv) z → x ∉ (lv.take n).flatMap (mvOf lv) := fun {x y z} hz hx hm => by
      obtain ⟨e', he', hx'⟩ := List.mem_flatMap.mp hm
      obtain ⟨z', hz', hu'⟩ := mvOf_up hx'
      have hzn := stOf_none gd he hz
      have hzn' := stOf_none gd (List.mem_of_mem_take he') hz'
      have := (upAt_all gd hzn).toUpRun.mem_same hzn (upAt_all gd hzn').toUpRun hzn' hx hu'
      subst this
      exact far e' he' _ hz' hz
    have hm : ∀ x ∈ mvOf lv lv[n], MayGo g (toOf lv) ((lv.take n).flatMap (mvOf lv)) x := fun x hx => by
      obtain ⟨z, hz, hu⟩ := mvOf_up hx
      exact ⟨sep (y := x) hz hu, hk x (mvOf_old gd he hx), fun y hy e => sep (y := x) hz ((upAt_all gd (stOf_none gd he hz)).next inj hu e) hy⟩
    rw [htk, List.flatMap_append, List.flatMap_append]
    refine ⟨?_, ?_⟩
    · rw [play_app p1, show [lv[n]].flatMap (chainE lv) = chainE lv lv[n] by rw [List.flatMap_singleton], show [lv[n]].flatMap (mvOf lv) = mvOf lv lv[n] by rw [List.flatMap_singleton]]
      exact entry_play gd hk hf he hm
    · rw [List.flatMap_singleton, List.nodup_append]
      exact ⟨p2, mvOf_nd gd he, fun x hx y hy q => (hm y hy).new (q ▸ hx)⟩
theorem rings_pw (gd : Good lv) : (ringsF lv).Pairwise fun r r' => ∀ x ∈ r, x ∉ r' := by
  unfold ringsF
  refine List.pairwise_filterMap.mpr ?_
  refine gd.oldsNd.imp fun {z z'} hne r hr r' hr' x hx hx' => ?_
  have i1 := ringAt_of hr
  have i2 := ringAt_of hr'
  have inj := toOf_inj gd
  have h1 := i1.least _ (i1.toCyc.back inj i2.toCyc.toRun hx' hx)
  have h2 := i2.least _ (i2.toCyc.back inj i1.toCyc.toRun hx hx')
  exact hne (str_ext' (List.le_antisymm h1 h2))
theorem ring_cyc (h : r ∈ ringsF lv) : ∃ z, IsRing (toOf lv) z r := by
  obtain ⟨z, _, hz⟩ := List.mem_filterMap.mp h
  exact ⟨z, ringAt_of hz⟩
theorem rings_play (gd : Good lv) {s : Str} (hk : ∀ x ∈ lv.map (·.1), (g x).isSome = true) (hs : g s = none) (hsn : s ∉ lv.filterMap (·.2)) {S : List Str} (hS : ∀ x ∈ S, x ∈ lv.map (·.1)) (hSr : ∀ r ∈ ringsF lv, ∀ x ∈ r, x ∉ S) :
    ∀ n, n ≤ (ringsF lv).length → playG (gone g (toOf lv) S) (((ringsF lv).take n).flatMap (ringD s)) = some (gone g (toOf lv) (((ringsF lv).take n).flatten ++ S)) := by
  intro n
  induction n with
  | zero => exact fun _ => rfl
  | succ n ih =>
    intro hn
    have p1 := ih (by omega)
    have htk : (ringsF lv).take (n + 1) = (ringsF lv).take n ++ [(ringsF lv)[n]] := by rw [List.take_add_one, List.getElem?_eq_getElem (by omega)]; rfl
    have hr : (ringsF lv)[n] ∈ ringsF lv := List.getElem_mem _
    obtain ⟨z, ir⟩ := ring_cyc hr
    have inj := toOf_inj gd
    have old : ∀ {r : List Str}, r ∈ ringsF lv → ∀ x ∈ r, x ∈ lv.map (·.1) := fun h => (ringsF_ok h).2.2
    have hso : s ∉ lv.map (·.1) := fun h => by have := hk s h; rw [hs] at this; cases this
    have hso2 : s ∉ ((ringsF lv).take n).flatten ++ S := fun h => by
      rcases List.mem_append.mp h with h | h
      · obtain ⟨r, h1, h2⟩ := List.mem_flatten.mp h
        exact hso (old (List.mem_of_mem_take h1) s h2)
      · exact hso (hS s h)
    have new : ∀ x ∈ (ringsF lv)[n], x ∉ ((ringsF lv).take n).flatten ++ S := fun x hx h => by
      rcases List.mem_append.mp h with h | h
      · obtain ⟨r, h1, h2⟩ := List.mem_flatten.mp h
        obtain ⟨i, hi⟩ := List.getElem?_of_mem h1
        have hil := (List.getElem?_eq_some_iff.mp hi).1
        rw [List.length_take] at hil
        rw [List.getElem?_take_of_lt (by omega), List.getElem?_eq_getElem (by omega)] at hi
        have := List.pairwise_iff_getElem.mp (rings_pw gd) i n (by omega) (by omega) (by omega)
        rw [Option.some.inj hi] at this
        exact this x h2 hx
      · exact hSr _ hr x hx h
    have P := ring_play (g := g) (S := ((ringsF lv).take n).flatten ++ S) inj ir.toCyc ir.len hs hso2 (fun h => hso (old hr s h)) (fun c e => hsn (List.mem_filterMap.mpr ⟨(c, some s), toOf_some e, rfl⟩)) fun x hx => ⟨new x hx, hk x (old hr x hx), fun y hy e => by
      obtain ⟨w, hw, ew⟩ := ir.toCyc.prev hx
      have := inj _ _ _ e ew
      subst this
      exact new _ hw hy⟩
    rw [htk, List.flatMap_append, play_app p1, List.flatMap_singleton, P]
    refine congrArg some (gone_congr inj fun c => ?_)
    rw [List.flatten_append, show ([(ringsF lv)[n]] : List (List Str)).flatten = (ringsF lv)[n] by simp]
    simp only [List.mem_append]
    constructor
    · rintro (h | h | h)
      · exact .inl (.inr h)
      · exact .inl (.inl h)
      · exact .inr h
    · rintro ((h | h) | h)
      · exact .inr (.inl h)
      · exact .inl h
      · exact .inr (.inr h)
/-- all names that go -/
noncomputable def goers (lv : Prs) : List Str := (ringsF lv).flatten ++ lv.flatMap (mvOf lv)
theorem deeds_play (gd : Good lv) {sp : Option Str} (hk : ∀ x ∈ lv.map (·.1), (g x).isSome = true) (hf : ∀ n ∈ lv.filterMap (·.2), n ∉ lv.map (·.1) → g n = none) (hs : ringsF lv ≠ [] → g (sp.getD "") = none ∧ sp.getD "" ∉ lv.filterMap (·.2)) :
    playG g (deedsF lv sp) = some (gone g (toOf lv) (goers lv)) := by
  have p1 := (chains_play gd hk hf lv.length (Nat.le_refl _)).1
  rw [List.take_length] at p1
  unfold deedsF chainF
  rw [play_app p1]
  by_cases h : ringsF lv = []
  · unfold goers
    rw [h]; rfl
  · obtain ⟨h1, h2⟩ := hs h
    have := rings_play (s := sp.getD "") (S := lv.flatMap (mvOf lv)) gd hk h1 h2 (fun x hx => by
      obtain ⟨e, he, hx⟩ := List.mem_flatMap.mp hx
      exact mvOf_old gd he hx) (fun r hr x hx hm => by
      obtain ⟨e, he, hm⟩ := List.mem_flatMap.mp hm
      obtain ⟨z, hz, hu⟩ := mvOf_up hm
      obtain ⟨z', ir⟩ := ring_cyc hr
      obtain ⟨i, hi⟩ := List.getElem?_of_mem hu
      have hzn := stOf_none gd he hz
      exact up_ring (upAt_all gd hzn).toUpRun hzn ir.toCyc i x hi hx) _ (Nat.le_refl _)
    rw [List.take_length] at this
    exact this
end
end Nn

namespace Nn
open PySem PySem.Spec PyProof.Rows L2
/-! ### deeds played: every thing under its new name; their number -/
section
variable {g : HeldF} {f : Str → Option Str} {S T l r : List Str} {a b c x y z : Str} {lv : Prs}
theorem run_len (rn : Run (toOf lv) z l) : l.length ≤ lv.length + 1 := by
  have ht : ∀ x ∈ l.dropLast, x ∈ lv.map (·.1) := fun x hx => by
    obtain ⟨i, hi⟩ := List.getElem?_of_mem hx
    have hil := (List.getElem?_eq_some_iff.mp hi).1
    rw [List.length_dropLast] at hil
    have hi' : l[i]? = some x := by
      rw [List.getElem?_dropLast, if_pos hil] at hi
      exact hi
    exact toOf_key _ _ (rn.st i _ _ hi' (List.getElem?_eq_getElem (by omega)))
  have := List.Nodup.length_le_of_subset (rn.nd.sublist (List.dropLast_sublist l)) ht
  rw [List.length_dropLast, List.length_map] at this
  omega
theorem run_max : ∀ (k : Nat) (l : List Str), Run (toOf lv) z l → lv.length + 1 - l.length ≤ k → ∃ m a, Run (toOf lv) z m ∧ m.getLast? = some a ∧ (toOf lv a = none ∨ ∃ y ∈ m, toOf lv a = some y)
  | k, l, rn, hk => by
    obtain ⟨a, ha⟩ := rn.last
    cases h : toOf lv a with
    | none => exact ⟨l, a, rn, ha, .inl h⟩
    | some y =>
      by_cases hy : y ∈ l
      · exact ⟨l, a, rn, ha, .inr ⟨y, hy, h⟩⟩
      · have rn' := rn.snoc ha h hy
        have := run_len rn'
        rw [List.length_append, List.length_singleton] at this
        cases k with
        | zero => omega
        | succ k => exact run_max k _ rn' (by rw [List.length_append, List.length_singleton]; omega)
theorem Run.up (rn : Run f z l) (h : l.getLast? = some a) : UpRun f a l.reverse := by
  have hp := rn.pos
  refine ⟨?_, (List.reverse_perm l).nodup_iff.mpr rn.nd, fun i x y hx hy => ?_⟩
  · rw [List.getElem?_reverse hp, ← h, last_at]; congr 1
  · have hi := (List.getElem?_eq_some_iff.mp hy).1
    rw [List.length_reverse] at hi
    rw [List.getElem?_reverse (by omega)] at hx hy
    exact rn.st _ _ _ hy (by rw [show l.length - 1 - (i + 1) + 1 = l.length - 1 - i by omega]; exact hx)
theorem UpRun.into (inj : Inj f) (u : UpRun f z l) {m : List Str} (w : UpAll f z m) : ∀ (i : Nat) (x : Str), l[i]? = some x → x ∈ m := by
  intro i
  induction i with
  | zero => intro x hx; rw [u.hd] at hx; cases hx; exact List.mem_of_getElem? w.hd
  | succ i ih =>
    intro x hx
    have hil := (List.getElem?_eq_some_iff.mp hx).1
    have hi : l[i]? = some (l[i]'(by omega)) := List.getElem?_eq_getElem (by omega)
    exact w.next inj (ih _ hi) (u.st i _ _ hi hx)
theorem min_ex : ∀ {l : List Str}, l ≠ [] → ∃ z ∈ l, ∀ x ∈ l, z.cps.toList ≤ x.cps.toList
  | [], h => absurd rfl h
  | [x], _ => ⟨x, by simp, fun y hy => by rw [List.mem_singleton] at hy; rw [hy]; exact List.le_refl _⟩
  | x :: y :: r, _ => by
    obtain ⟨z, hz, h⟩ := min_ex (l := y :: r) (by simp)
    rcases List.le_total x.cps.toList z.cps.toList with q | q
    · refine ⟨x, by simp, fun w hw => ?_⟩
      rcases List.mem_cons.mp hw with e | hw
      · rw [e]; exact List.le_refl _
      · exact List.le_trans q (h w hw)
    · refine ⟨z, List.mem_cons_of_mem _ hz, fun w hw => ?_⟩
      rcases List.mem_cons.mp hw with e | hw
      · rw [e]; exact q
      · exact h w hw
theorem go_all (gd : Good lv) (hc : c ∈ lv.map (·.1)) (hne : toOf lv c ≠ some c) : c ∈ goers lv := by
  have inj := toOf_inj gd
  obtain ⟨l, a, rn, ha, h⟩ := run_max (lv := lv) _ [c] .one (Nat.le_refl _)
  rcases h with h | ⟨y, hy, h⟩
  · -- it ends
    have u := upAt_all gd h
    have hcl : c ∈ upAt (toOf lv) a := by
      obtain ⟨i, hi⟩ := List.getElem?_of_mem (List.mem_reverse.mpr rn.mem)
      exact (rn.up ha).into inj u i c hi
    refine List.mem_append_right _ ?_
    by_cases hao : a ∈ lv.map (·.1)
    · obtain ⟨e, he, ea⟩ := List.mem_map.mp hao
      have e2 : e.2 = none := by rw [← toOf_mem gd.oldsNd he, ea]; exact h
      refine List.mem_flatMap.mpr ⟨e, he, ?_⟩
      unfold mvOf
      rw [e2]
      show c ∈ upAt (toOf lv) e.1
      rw [ea]; exact hcl
    · have hca : c ≠ a := fun e => hao (e ▸ hc)
      cases hl : upAt (toOf lv) a with
      | nil => rw [hl] at hcl; cases hcl
      | cons a' t =>
        have hh := u.hd
        rw [hl] at hh hcl u
        cases hh
        have hct : c ∈ t := (List.mem_cons.mp hcl).resolve_left hca
        cases t with
        | nil => cases hct
        | cons b t =>
          have hba := u.st 0 a b rfl rfl
          refine List.mem_flatMap.mpr ⟨(b, some a), toOf_some hba, ?_⟩
          show c ∈ (if a ∈ lv.map (·.1) then [] else (upAt (toOf lv) a).tail)
          rw [if_neg hao, hl]
          exact hct
  · -- it is round
    refine List.mem_append_left _ ?_
    have ey := rn.close inj ha h hy
    subst ey
    have cy : Cyc (toOf lv) y l := ⟨rn, a, ha, h⟩
    obtain ⟨z, hz, hmin⟩ := min_ex (l := l) (fun e => by have := rn.mem; rw [e] at this; cases this)
    obtain ⟨m, b, rm, hb, h2⟩ := run_max (lv := lv) _ [z] .one (Nat.le_refl _)
    have key : ∀ (i : Nat) (x : Str), m[i]? = some x → x ∈ l := by
      intro i
      induction i with
      | zero => intro x hx; rw [rm.hd] at hx; cases hx; exact hz
      | succ i ih =>
        intro x hx
        have hil := (List.getElem?_eq_some_iff.mp hx).1
        have hi : m[i]? = some (m[i]'(by omega)) := List.getElem?_eq_getElem (by omega)
        obtain ⟨w, hw, ew⟩ := cy.next (ih _ hi)
        rw [rm.st i _ _ hi hx] at ew
        cases ew
        exact hw
    have hml : ∀ x ∈ m, x ∈ l := fun x hx => by
      obtain ⟨i, hi⟩ := List.getElem?_of_mem hx
      exact key i x hi
    have hbl : b ∈ l := hml b (List.mem_of_getElem? (last_at ▸ hb))
    rcases h2 with h2 | ⟨w, hw, h2⟩
    · obtain ⟨w, _, ew⟩ := cy.next hbl
      rw [h2] at ew; cases ew
    · have ew := rm.close inj hb h2 hw
      subst ew
      have cm : Cyc (toOf lv) w m := ⟨rm, b, hb, h2⟩
      have hym : y ∈ m := cm.back inj rn hz rm.mem
      have hlen : 1 < m.length := by
        match m, hym, cm, rm with
        | [], h, _, _ => cases h
        | [q], h, cm, rm =>
          exfalso
          rw [List.mem_singleton] at h
          subst h
          obtain ⟨b', hb', e'⟩ := cm.cl
          cases hb'
          have := rm.hd
          cases this
          exact hne e'
        | q :: q' :: r, _, _, _ => exact Nat.succ_lt_succ (Nat.succ_pos _)
      have hwo : w ∈ lv.map (·.1) := by
        obtain ⟨x, _, e⟩ := cm.next rm.mem
        exact toOf_key _ _ e
      exact List.mem_flatten.mpr ⟨m, List.mem_filterMap.mpr ⟨w, hwo, ringAt_some ⟨cm, hlen, fun x hx => hmin x (hml x hx)⟩⟩, hym⟩
theorem goers_old (gd : Good lv) (h : c ∈ goers lv) : c ∈ lv.map (·.1) := by
  rcases List.mem_append.mp h with h | h
  · obtain ⟨r, h1, h2⟩ := List.mem_flatten.mp h
    exact (ringsF_ok h1).2.2 c h2
  · obtain ⟨e, he, h⟩ := List.mem_flatMap.mp h
    exact mvOf_old gd he h
theorem goers_ne (gd : Good lv) (h : c ∈ goers lv) : toOf lv c ≠ some c := by
  intro e
  have inj := toOf_inj gd
  rcases List.mem_append.mp h with h | h
  · obtain ⟨r, h1, h2⟩ := List.mem_flatten.mp h
    obtain ⟨z, ir⟩ := ring_cyc h1
    obtain ⟨i, hi⟩ := List.getElem?_of_mem h2
    have hil := (List.getElem?_eq_some_iff.mp hi).1
    have hrl := ir.len
    by_cases hl : i + 1 < r.length
    · have h3 : r[i + 1]? = some r[i + 1] := List.getElem?_eq_getElem hl
      rw [ir.st i _ _ hi h3] at e
      rw [Option.some.inj e] at h3
      have := nd_ix ir.nd hi h3
      omega
    · obtain ⟨b, hb, eb⟩ := ir.cl
      rw [last_at, show r.length - 1 = i by omega, hi] at hb
      cases hb
      rw [e] at eb
      have h0 := ir.hd
      rw [← Option.some.inj eb] at h0
      have := nd_ix ir.nd hi h0
      omega
  · obtain ⟨en, he, hm⟩ := List.mem_flatMap.mp h
    obtain ⟨z, hz, hu⟩ := mvOf_up hm
    have hzn := stOf_none gd he hz
    have u := upAt_all gd hzn
    obtain ⟨i, hi⟩ := List.getElem?_of_mem hu
    cases i with
    | zero => rw [u.hd] at hi; cases hi; rw [hzn] at e; cases e
    | succ i =>
      have hil := (List.getElem?_eq_some_iff.mp hi).1
      have hi' : (upAt (toOf lv) z)[i]? = some ((upAt (toOf lv) z)[i]'(by omega)) := List.getElem?_eq_getElem (by omega)
      rw [u.st i _ _ hi' hi] at e
      rw [Option.some.inj e] at hi'
      have := nd_ix u.nd hi hi'
      omega
/-- what is held, of a list -/
def lk (td : List (Str × V)) : HeldF := fun z => (td.find? fun e => decide (e.1 = z)).map (·.2)
theorem lk_mem {td : List (Str × V)} (nd : (td.map (·.1)).Nodup) {v : V} : lk td z = some v ↔ (z, v) ∈ td := by
  unfold lk
  constructor
  · intro h
    obtain ⟨e, he, ev⟩ := Option.map_eq_some_iff.mp h
    have h1 := List.mem_of_find?_eq_some he
    have h2 : e.1 = z := of_decide_eq_true (List.find?_some (p := fun e : Str × V => decide (e.1 = z)) he)
    rw [← h2, ← ev]; exact h1
  · intro h
    induction td with
    | nil => cases h
    | cons y r ih =>
      rw [List.map_cons, List.nodup_cons] at nd
      rcases List.mem_cons.mp h with e | e
      · subst e
        rw [List.find?_cons_of_pos (by simp)]; rfl
      · rw [List.find?_cons_of_neg, ih nd.2 e]
        intro q
        exact nd.1 (of_decide_eq_true q ▸ List.mem_map_of_mem (f := Prod.fst) e)
theorem lk_none {td : List (Str × V)} : lk td z = none ↔ z ∉ td.map (·.1) := by
  unfold lk
  rw [Option.map_eq_none_iff, List.find?_eq_none]
  exact ⟨fun h hm => by
    obtain ⟨e, he, ez⟩ := List.mem_map.mp hm
    exact h e he (decide_eq_true ez), fun h e he q => h (of_decide_eq_true q ▸ List.mem_map_of_mem he)⟩
theorem toO_in (gd : Good lv) (h : x ∈ lv.map (·.1)) : toO lv x = toOf lv x := by
  obtain ⟨e, he, rfl⟩ := List.mem_map.mp h
  rw [toO_mem gd.oldsNd he, toOf_mem gd.oldsNd he]
theorem beh_nd (gd : Good lv) {td : List (Str × V)} (nd : (td.map (·.1)).Nodup) (ft : Fit (td.map (·.1)) lv) : ((behF td lv).map (·.1)).Nodup := by
  rw [behN_keys]; exact beh_nodup' gd ft nd
theorem mem_beh {td : List (Str × V)} {v : V} : (y, v) ∈ behF td lv ↔ ∃ x, (x, v) ∈ td ∧ toO lv x = some y := by
  unfold behF
  rw [List.mem_filterMap]
  constructor
  · rintro ⟨e, he, h⟩
    obtain ⟨z, hz, e2⟩ := Option.map_eq_some_iff.mp h
    cases e2
    exact ⟨e.1, he, hz⟩
  · rintro ⟨x, hx, h⟩
    exact ⟨(x, v), hx, by show (toO lv x).map _ = _; rw [h]; rfl⟩
/-- ALL DEEDS PLAYED: each thing under its new name, all else as it was -/
theorem gone_beh (gd : Good lv) {td : List (Str × V)} (nd : (td.map (·.1)).Nodup) (ft : Fit (td.map (·.1)) lv) : gone (lk td) (toOf lv) (goers lv) = lk (behF td lv) := by
  have inj := toOf_inj gd
  have bnd := beh_nd gd nd ft
  have hk : ∀ x ∈ lv.map (·.1), ∃ v, (x, v) ∈ td := fun x hx => by
    obtain ⟨e, he, e1⟩ := List.mem_map.mp (ft.1 x hx)
    exact ⟨e.2, by rw [← e1]; exact he⟩
  have no : ∀ {y : Str}, (∀ x v, (x, v) ∈ td → toO lv x ≠ some y) → lk (behF td lv) y = none := fun {y} h => by
    refine lk_none.mpr fun hm => ?_
    obtain ⟨e, he, e1⟩ := List.mem_map.mp hm
    have he : (e.1, e.2) ∈ behF td lv := he
    rw [e1] at he
    obtain ⟨x, hx, hxy⟩ := mem_beh.mp he
    exact h x _ hx hxy
  funext y
  rcases gone_cases inj (goers lv) y with ⟨c, hc, e⟩ | h1
  · rw [gone_come inj hc e]
    have hco := goers_old gd hc
    obtain ⟨v, hv⟩ := hk c hco
    rw [(lk_mem nd).mpr hv]
    exact ((lk_mem bnd).mpr (mem_beh.mpr ⟨c, hv, by rw [toO_in gd hco]; exact e⟩)).symm
  · by_cases hy : y ∈ goers lv
    · rw [gone_left h1 hy]
      have hyo := goers_old gd hy
      refine (no fun x v hx hxy => ?_).symm
      by_cases hxo : x ∈ lv.map (·.1)
      · rw [toO_in gd hxo] at hxy
        by_cases hfx : toOf lv x = some x
        · rw [hfx] at hxy
          cases hxy
          exact goers_ne gd hy hfx
        · exact h1 x (go_all gd hxo hfx) hxy
      · rw [toO_out hxo] at hxy
        cases hxy
        exact hxo hyo
    · rw [gone_stay h1 hy]
      cases hl : lk td y with
      | some v =>
        have hv := (lk_mem nd).mp hl
        refine ((lk_mem bnd).mpr (mem_beh.mpr ⟨y, hv, ?_⟩)).symm
        by_cases hyo : y ∈ lv.map (·.1)
        · rw [toO_in gd hyo]
          exact Classical.byContradiction fun h => hy (go_all gd hyo h)
        · exact toO_out hyo
      | none =>
        have hno := lk_none.mp hl
        refine (no fun x v hx hxy => ?_).symm
        by_cases hxo : x ∈ lv.map (·.1)
        · rw [toO_in gd hxo] at hxy
          by_cases hfx : toOf lv x = some x
          · rw [hfx] at hxy
            cases hxy
            exact hno (List.mem_map_of_mem (f := Prod.fst) hx)
          · exact h1 x (go_all gd hxo hfx) hxy
        · rw [toO_out hxo] at hxy
          cases hxy
          exact hno (List.mem_map_of_mem (f := Prod.fst) hx)
theorem deeds_done (gd : Good lv) {td : List (Str × V)} (nd : (td.map (·.1)).Nodup) (ft : Fit (td.map (·.1)) lv) {sp : Option Str} (hs : ringsF lv ≠ [] → sp.getD "" ∉ td.map (·.1) ∧ sp.getD "" ∉ lv.filterMap (·.2)) :
    playG (lk td) (deedsF lv sp) = some (lk (behF td lv)) := by
  rw [← gone_beh gd nd ft]
  refine deeds_play gd (fun x hx => ?_) (fun n hn hno => lk_none.mpr fun h => hno (ft.2 n hn h)) fun h => ⟨lk_none.mpr (hs h).1, (hs h).2⟩
  cases h : lk td x with
  | none => exact absurd (ft.1 x hx) (lk_none.mp h)
  | some v => rfl
/-! ### how many deeds -/
theorem goers_nd (gd : Good lv) : (goers lv).Nodup := by
  unfold goers
  have h2 : (lv.flatMap (mvOf lv)).Nodup := by
    have := (chains_play (g := fun z => if z ∈ lv.map (·.1) then some V.non else none) gd (fun x hx => by rw [if_pos hx]; rfl) (fun n _ h => if_neg h) lv.length (Nat.le_refl _)).2
    rw [List.take_length] at this
    exact this
  have h1 : (ringsF lv).flatten.Nodup := by
    refine List.pairwise_flatten.mpr ?_
    refine ⟨fun r hr => ?_, (rings_pw gd).imp fun {r r'} h => ?_⟩
    · obtain ⟨z, ir⟩ := ring_cyc hr
      exact ir.nd
    · exact fun x hx y hy e => h x hx (e ▸ hy)
  rw [List.nodup_append]
  refine ⟨h1, h2, fun x hx y hy q => ?_⟩
  subst q
  obtain ⟨r, hr, hxr⟩ := List.mem_flatten.mp hx
  obtain ⟨e, he, hm⟩ := List.mem_flatMap.mp hy
  obtain ⟨z, hz, hu⟩ := mvOf_up hm
  obtain ⟨z', ir⟩ := ring_cyc hr
  obtain ⟨i, hi⟩ := List.getElem?_of_mem hu
  have hzn := stOf_none gd he hz
  exact up_ring (upAt_all gd hzn).toUpRun hzn ir.toCyc i x hi hxr
theorem upM_len' : ∀ l : List Str, (upM l).length = l.tail.length
  | [] => rfl
  | [x] => rfl
  | x :: y :: r => by
    show (upM (y :: r)).length + 1 = r.length + 1
    rw [upM_len' (y :: r)]; rfl
theorem deeds_many (gd : Good lv) (sp : Option Str) : (deedsF lv sp).length = ((lv.map (·.1)).filter fun c => !decide (toOf lv c = some c)).length + (ringsF lv).length := by
  have hp : (goers lv).Perm ((lv.map (·.1)).filter fun c => !decide (toOf lv c = some c)) := by
    refine (List.perm_ext_iff_of_nodup (goers_nd gd) (gd.oldsNd.filter _)).mpr fun c => ?_
    rw [List.mem_filter]
    constructor
    · intro h
      exact ⟨goers_old gd h, by rw [decide_eq_false (goers_ne gd h)]; rfl⟩
    · rintro ⟨h1, h2⟩
      exact go_all gd h1 (of_decide_eq_false (by simpa using h2))
  rw [← hp.length_eq]
  unfold deedsF goers chainF
  rw [List.length_append, List.length_append, List.length_flatMap, List.length_flatMap, List.length_flatMap, List.length_flatten]
  have e1 : (lv.map fun e => (chainE lv e).length).sum = (lv.map fun e => (mvOf lv e).length).sum := by
    refine congrArg List.sum (List.map_congr_left fun e he => ?_)
    unfold chainE mvOf
    cases hn : e.2 with
    | none =>
      have u := upAt_all gd (stOf_none gd he (by unfold stOf; rw [hn]))
      show (upM (upAt (toOf lv) e.1)).length + 1 = (upAt (toOf lv) e.1).length
      rw [upM_len', List.length_tail]
      have := u.pos
      omega
    | some n =>
      show (if n ∈ lv.map (·.1) then [] else upM (upAt (toOf lv) n)).length = (if n ∈ lv.map (·.1) then [] else (upAt (toOf lv) n).tail).length
      by_cases h : n ∈ lv.map (·.1)
      · rw [if_pos h, if_pos h]; rfl
      · rw [if_neg h, if_neg h, upM_len']
  have e2 : ((ringsF lv).map fun r => (ringD (sp.getD "") r).length).sum = ((ringsF lv).map fun r => r.length).sum + (ringsF lv).length := by
    have h : ∀ l : List (List Str), (∀ r ∈ l, 0 < r.length) → (l.map fun r => (ringD (sp.getD "") r).length).sum = (l.map fun r => r.length).sum + l.length := by
      intro l
      induction l with
      | nil => exact fun _ => rfl
      | cons r l ih =>
        intro h
        rw [List.map_cons, List.map_cons, List.sum_cons, List.sum_cons, List.length_cons, ih (fun x hx => h x (List.mem_cons_of_mem _ hx)), ringD_len (h r (by simp))]
        omega
    exact h _ fun r hr => (ringsF_ok hr).1
  have e3 : (List.map List.length (ringsF lv)).sum = ((ringsF lv).map fun r => r.length).sum := rfl
  rw [e1, e2, e3]
  omega
end
end Nn

namespace Nn
open PySem PySem.Spec PyProof.Rows L2
/-! ### Plan(pairs), in a ledger -/
theorem plan_new {M : List Addr} {H0 H : Hp} {L T : List (Addr × HO)} {G : VK} {E : XK} {C pl dx a : Addr} {te : List (Addr × (Str × Option Str))} (A : At M H0 H L T) (hpl : H pl = none) (hdx : H dx = none) (hne : dx ≠ pl)
    (ha : H a = some (.lst (te.map fun x => V.ref x.1))) (hte : ∀ x ∈ te.map tP, H x.1 = some x.2) (hg : Good (te.map (·.2)))
    (k : ∀ H' d lv, lv.Perm (te.map (·.2)) → sortedS (lv.map (·.1)) = true → Kp [] H H' → At M H0 H' (L ++ [(pl, .ins C dx [("_leads", .ref d)]), (d, .dK (dko lv))]) T → G .non H') :
    spInit C [.ref pl, .ref a] (upd (upd H dx (.own pl)) pl (.ins C dx [])) G E := by
  have hpl1 : upd H dx (.own pl) pl = none := by rw [upd_ne hne.symm]; exact hpl
  have A1 := A.snoc hdx (.own pl)
  have A2 := A1.snoc hpl1 (.ins C dx [])
  have n1 : ∀ {b : Addr} {o : HO}, H b = some o → b ≠ dx ∧ b ≠ pl := fun {b o} hb => ⟨ne_of_none hb hdx, ne_of_none hb hpl⟩
  have up : ∀ {b : Addr} {o : HO}, H b = some o → upd (upd H dx (.own pl)) pl (.ins C dx []) b = some o := fun {b o} hb => by
    rw [upd_ne (n1 hb).2, upd_ne (n1 hb).1]; exact hb
  refine ⟨pl, a, dx, te, rfl, upd_same, up ha, fun x hx => up (hte x hx), hg, fun H' d lv hlv hso hd k1 hpl' hd' => ?_⟩
  have i1 : (L ++ [(dx, HO.own pl)] ++ [(pl, HO.ins C dx [])])[L.length + 1]? = some (pl, HO.ins C dx []) := by simp
  have A3 := A2.add (A2.c1 (L.length + 1) i1 k1 hpl') (by simp) hd hd'
  have es : ((L ++ [(dx, HO.own pl)] ++ [(pl, HO.ins C dx [])]).set (L.length + 1) (pl, HO.ins C dx [("_leads", .ref d)])) ++ [(d, HO.dK (dko lv))] = L ++ ((dx, HO.own pl) :: [(pl, HO.ins C dx [("_leads", .ref d)]), (d, .dK (dko lv))]) := by
    simp [List.set_append]
  rw [es] at A3
  refine k H' d lv hlv hso (fun b o hb _ => k1 b o (up hb) ?_) (A3.sel (fun x hx => ?_) ((List.Sublist.refl L).append (List.sublist_cons_self _ _)))
  · rw [List.mem_singleton]; exact (n1 hb).2
  · rw [List.map_append]; exact List.mem_append_left _ (A.mL x hx)
end Nn

namespace Nn
/-! ### no fewer moves (k09): places p, goals g, by numbers of things -/
abbrev Pl := List (Option PySem.Str)
/-- a move of thing k to x: x is a free name, or none where k is to be let go -/
structure Mv (g p p' : Pl) : Prop where
  ex : ∃ (k : Nat) (y : PySem.Str) (x : Option PySem.Str), p[k]? = some (some y) ∧ p' = p.set k x ∧ (∀ z, x = some z → some z ∉ p) ∧ (x = none → g[k]? = some none)
/-- a row of m moves to the goals -/
inductive Row (g : Pl) : Pl → Nat → Prop
  | nil : Row g g 0
  | cons {p p' : Pl} {m : Nat} : Mv g p p' → Row g p' m → Row g p (m + 1)
/-- things that aren't at their goals -/
def misN (g p : Pl) : Nat := ((List.range p.length).filter fun k => decide (p[k]? ≠ g[k]?)).length
/-- a ring of things, each of which waits for another's place -/
structure Blk (g p : Pl) (r : List Nat) : Prop where
  ne : r ≠ []
  wait : ∀ k ∈ r, k < p.length ∧ ∃ k' ∈ r, k' ≠ k ∧ ∃ z, g[k]? = some (some z) ∧ p[k']? = some (some z) ∧ p[k]? ≠ some (some z)
theorem mis_set {g p : Pl} {k : Nat} {x : Option PySem.Str} (hk : k < p.length) : misN g p ≤ misN g (p.set k x) + (if p[k]? ≠ g[k]? ∧ (some x : Option (Option PySem.Str)) = g[k]? then 1 else 0) := by
  unfold misN
  rw [List.length_set]
  have hs : ∀ i, i ≠ k → (p.set k x)[i]? = p[i]? := fun i hi => List.getElem?_set_ne (Ne.symm hi)
  have hx : (p.set k x)[k]? = some x := by rw [List.getElem?_set_self hk]
  rw [← List.countP_eq_length_filter, ← List.countP_eq_length_filter]
  have key : ∀ l : List Nat, l.Nodup → l.countP (fun i => decide (p[i]? ≠ g[i]?)) ≤ l.countP (fun i => decide ((p.set k x)[i]? ≠ g[i]?)) + (if k ∈ l ∧ p[k]? ≠ g[k]? ∧ (some x : Option (Option PySem.Str)) = g[k]? then 1 else 0) := by
    intro l
    induction l with
    | nil => intro _; simp
    | cons i l ih =>
      intro nd
      obtain ⟨h1, h2⟩ := List.nodup_cons.mp nd
      have ih := ih h2
      rw [List.countP_cons, List.countP_cons]
      by_cases hi : i = k
      · subst hi
        rw [if_neg (fun q => h1 q.1)] at ih
        rw [hx]
        by_cases a : p[i]? ≠ g[i]?
        · by_cases b : (some x : Option (Option PySem.Str)) = g[i]?
          · rw [if_pos (show i ∈ i :: l ∧ p[i]? ≠ g[i]? ∧ (some x : Option (Option PySem.Str)) = g[i]? from ⟨List.mem_cons_self, a, b⟩), decide_eq_true a, if_pos rfl]; omega
          · rw [decide_eq_true a, if_pos rfl, decide_eq_true (show ¬ _ from b), if_pos rfl]; omega
        · rw [decide_eq_false a, if_neg (by decide)]; omega
      · rw [hs i hi]
        have e : (if k ∈ i :: l ∧ p[k]? ≠ g[k]? ∧ (some x : Option (Option PySem.Str)) = g[k]? then 1 else 0) = (if k ∈ l ∧ p[k]? ≠ g[k]? ∧ (some x : Option (Option PySem.Str)) = g[k]? then 1 else 0) := by
          simp only [List.mem_cons, Ne.symm hi, false_or]
        rw [e]
        omega
  have := key (List.range p.length) List.nodup_range
  simpa [List.mem_range, hk] using this
theorem Blk.keep {g p : Pl} {r : List Nat} (b : Blk g p r) {k : Nat} (hk : k ∉ r) (x : Option PySem.Str) : Blk g (p.set k x) r := by
  refine ⟨b.ne, fun i hi => ?_⟩
  obtain ⟨h1, k', hk', hne, z, g1, p1, p2⟩ := b.wait i hi
  have ni : i ≠ k := fun e => hk (e ▸ hi)
  have nk : k' ≠ k := fun e => hk (e ▸ hk')
  exact ⟨by rw [List.length_set]; exact h1, k', hk', hne, z, g1, by rw [List.getElem?_set_ne (Ne.symm nk)]; exact p1, by rw [List.getElem?_set_ne (Ne.symm ni)]; exact p2⟩
/-- a row of moves is as long as what is misplaced and the rings that wait -/
theorem few {g p : Pl} {m : Nat} (h : Row g p m) : ∀ R : List (List Nat), (∀ r ∈ R, Blk g p r) → R.Pairwise (fun a b => ∀ k ∈ a, k ∉ b) → misN g p + R.length ≤ m := by
  induction h with
  | nil =>
    intro R hR _
    have hm : misN g g = 0 := by unfold misN; rw [List.length_eq_zero_iff, List.filter_eq_nil_iff]; intro k _; simp
    cases R with
    | nil => rw [hm]; exact Nat.le_refl _
    | cons r R =>
      have b := hR r List.mem_cons_self
      cases hr : r with
      | nil => exact absurd hr b.ne
      | cons k r' =>
        obtain ⟨_, _, _, _, z, g1, _, p2⟩ := b.wait k (by rw [hr]; exact List.mem_cons_self)
        exact absurd g1 p2
  | @cons p p' m mv row ih =>
    intro R hR hd
    obtain ⟨k, y, x, hp, rfl, hx, hg⟩ := mv.ex
    have hk : k < p.length := (List.getElem?_eq_some_iff.mp hp).1
    have hms := mis_set (g := g) (x := x) hk
    by_cases hin : ∃ r ∈ R, k ∈ r
    · obtain ⟨r, hr, hkr⟩ := hin
      obtain ⟨A, C, rfl⟩ := List.append_of_mem hr
      have hnot : ∀ s ∈ A ++ C, k ∉ s := fun s hs => by
        rcases List.mem_append.mp hs with hs | hs
        · intro hk2
          exact (List.pairwise_append.mp hd).2.2 s hs r List.mem_cons_self k hk2 hkr
        · exact (List.pairwise_cons.mp (List.pairwise_append.mp hd).2.1).1 s hs k hkr
      have ih := ih (A ++ C) (fun s hs => (hR s (by rcases List.mem_append.mp hs with h | h; · exact List.mem_append_left _ h
                                                    · exact List.mem_append_right _ (List.mem_cons_of_mem _ h))).keep (hnot s hs) x)
        (hd.sublist ((List.Sublist.refl A).append (List.sublist_cons_self r C)))
      obtain ⟨_, k', hk', hne, z, g1, p1, p2⟩ := (hR r hr).wait k hkr
      rw [if_neg (fun q => by
        have e := q.2
        rw [g1] at e
        exact hx z (Option.some.inj e) (List.mem_of_getElem? p1))] at hms
      rw [List.length_append] at ih
      rw [List.length_append, List.length_cons]
      omega
    · have ih := ih R (fun s hs => (hR s hs).keep (fun h => hin ⟨s, hs, h⟩) x) hd
      have : (if p[k]? ≠ g[k]? ∧ (some x : Option (Option PySem.Str)) = g[k]? then 1 else 0) ≤ 1 := by split <;> omega
      omega
end Nn

namespace Nn
/-! ### a search by layers -/
section
variable {α : Type} {nb : α → List α} {b goal : α}
/-- a row of m steps from b -/
inductive Way (nb : α → List α) (b : α) : α → Nat → Prop
  | nil : Way nb b b 0
  | cons {u v : α} {m : Nat} : Way nb b u m → v ∈ nb u → Way nb b v (m + 1)
structure Srch (nb : α → List α) (b : α) (W : List (α × Nat)) (pos : Nat) : Prop where
  nd : (W.map (·.1)).Nodup
  mono : W.Pairwise fun x y => x.2 ≤ y.2
  head : W[0]? = some (b, 0)
  near : ∀ e ∈ W, ∀ h, W[pos]? = some h → e.2 ≤ h.2 + 1
  done : ∀ j, j < pos → ∀ u, W[j]? = some u → ∀ v ∈ nb u.1, ∃ e ∈ W, e.1 = v ∧ e.2 ≤ u.2 + 1
  path : ∀ e ∈ W, Way nb b e.1 e.2
/-- .. when it stands within the neighbours of the one at its place -/
structure Srch2 (nb : α → List α) (b : α) (W : List (α × Nat)) (pos : Nat) (h : α × Nat) (seen : List α) : Prop where
  s : Srch nb b W pos
  here : W[pos]? = some h
  seen : ∀ v ∈ seen, ∃ e ∈ W, e.1 = v ∧ e.2 ≤ h.2 + 1
theorem Srch.init : Srch nb b [(b, 0)] 0 :=
  ⟨by simp, by simp, rfl, fun e he h hh => by rw [List.mem_singleton] at he; subst he; exact Nat.zero_le _, fun j hj => by omega, fun e he => by rw [List.mem_singleton] at he; subst he; exact .nil⟩
theorem Srch.go {W : List (α × Nat)} {pos : Nat} (s : Srch nb b W pos) {h : α × Nat} (hh : W[pos]? = some h) : Srch2 nb b W pos h [] := ⟨s, hh, fun v hv => by cases hv⟩
theorem Srch2.skip {W : List (α × Nat)} {pos : Nat} {h : α × Nat} {seen : List α} (s : Srch2 nb b W pos h seen) {v : α} (hv : v ∈ W.map (·.1)) : Srch2 nb b W pos h (seen ++ [v]) := by
  refine ⟨s.s, s.here, fun x hx => ?_⟩
  rcases List.mem_append.mp hx with hx | hx
  · exact s.seen x hx
  · rw [List.mem_singleton] at hx
    obtain ⟨e, he, q⟩ := List.mem_map.mp hv
    exact ⟨e, he, by rw [hx]; exact q, s.s.near e he h s.here⟩
theorem Srch2.more {W : List (α × Nat)} {pos : Nat} {h : α × Nat} {seen : List α} (s : Srch2 nb b W pos h seen) {v : α} (hn : v ∈ nb h.1) (hv : v ∉ W.map (·.1)) : Srch2 nb b (W ++ [(v, h.2 + 1)]) pos h (seen ++ [v]) := by
  have hpos : pos < W.length := (List.getElem?_eq_some_iff.mp s.here).1
  have get : ∀ {j u}, W[j]? = some u → (W ++ [(v, h.2 + 1)])[j]? = some u := fun {j u} hj => by rw [List.getElem?_append_left (List.getElem?_eq_some_iff.mp hj).1]; exact hj
  have here : (W ++ [(v, h.2 + 1)])[pos]? = some h := get s.here
  have mm : ∀ {e}, e ∈ W → e ∈ W ++ [(v, h.2 + 1)] := fun he => List.mem_append_left _ he
  refine ⟨⟨?_, ?_, get s.s.head, fun e he x hx => ?_, fun j hj u hu x hx => ?_, fun e he => ?_⟩, here, fun x hx => ?_⟩
  · rw [List.map_append, List.nodup_append]
    refine ⟨s.s.nd, by simp, fun x hx y hy q => ?_⟩
    rw [List.map_singleton, List.mem_singleton] at hy
    rw [q, hy] at hx
    exact hv hx
  · rw [List.pairwise_append]
    refine ⟨s.s.mono, by simp, fun x hx y hy => ?_⟩
    rw [List.mem_singleton] at hy
    rw [hy]
    exact s.s.near x hx h s.here
  · rw [here] at hx
    obtain rfl := Option.some.inj hx
    rcases List.mem_append.mp he with he | he
    · exact s.s.near e he h s.here
    · rw [List.mem_singleton] at he; rw [he]; exact Nat.le_refl _
  · rw [List.getElem?_append_left (by omega)] at hu
    obtain ⟨e, he, q⟩ := s.s.done j hj u hu x hx
    exact ⟨e, mm he, q⟩
  · rcases List.mem_append.mp he with he | he
    · exact s.s.path e he
    · rw [List.mem_singleton] at he
      rw [he]
      exact .cons (s.s.path h (List.mem_of_getElem? s.here)) hn
  · rcases List.mem_append.mp hx with hx | hx
    · obtain ⟨e, he, q⟩ := s.seen x hx
      exact ⟨e, mm he, q⟩
    · rw [List.mem_singleton] at hx
      exact ⟨_, List.mem_append_right _ (List.mem_singleton.mpr rfl), hx.symm, Nat.le_refl _⟩
theorem mono_at {W : List (α × Nat)} (m : W.Pairwise fun x y => x.2 ≤ y.2) {i j : Nat} {u v : α × Nat} (hu : W[i]? = some u) (hv : W[j]? = some v) (h : i ≤ j) : u.2 ≤ v.2 := by
  rcases Nat.lt_or_eq_of_le h with h | h
  · obtain ⟨h1, rfl⟩ := List.getElem?_eq_some_iff.mp hu
    obtain ⟨h2, rfl⟩ := List.getElem?_eq_some_iff.mp hv
    exact List.pairwise_iff_getElem.mp m i j h1 h2 h
  · subst h
    rw [hu] at hv
    rw [Option.some.inj hv]
    exact Nat.le_refl _
theorem Srch2.fin {W : List (α × Nat)} {pos : Nat} {h : α × Nat} (s : Srch2 nb b W pos h (nb h.1)) : Srch nb b W (pos + 1) := by
  refine ⟨s.s.nd, s.s.mono, s.s.head, fun e he x hx => ?_, fun j hj u hu v hv => ?_, s.s.path⟩
  · have h1 := s.s.near e he h s.here
    have h2 := mono_at s.s.mono s.here hx (Nat.le_succ _)
    omega
  · rcases Nat.lt_or_eq_of_le (Nat.le_of_lt_succ hj) with hj | hj
    · exact s.s.done j hj u hu v hv
    · subst hj
      rw [s.here] at hu
      obtain rfl := Option.some.inj hu
      exact s.seen v hv
/-- a search that has met its goal when it took the last one on -/
theorem Srch.least {W : List (α × Nat)} {pos : Nat} (s : Srch nb b W pos) {e : α × Nat} (he : e ∈ W) (hl : (pos = 0 ∧ e.2 = 0) ∨ ∃ u, 0 < pos ∧ W[pos - 1]? = some u ∧ e.2 = u.2 + 1) {m : Nat} (w : Way nb b e.1 m) : e.2 ≤ m := by
  rcases hl with ⟨_, h0⟩ | ⟨u, hp, hu, hl⟩
  · omega
  have key : ∀ {v : α} {i : Nat}, Way nb b v i → i < e.2 → ∃ x ∈ W, x.1 = v ∧ x.2 ≤ i := by
    intro v i w
    induction w with
    | nil => intro _; exact ⟨(b, 0), List.mem_of_getElem? s.head, rfl, Nat.le_refl _⟩
    | @cons y v i w hv ih =>
      intro hi
      obtain ⟨x, hx, rfl, hxi⟩ := ih (by omega)
      obtain ⟨j, hj⟩ := List.getElem?_of_mem hx
      have hjp : j < pos := by
        refine Classical.byContradiction fun h => ?_
        have := mono_at s.mono hu hj (by omega)
        omega
      obtain ⟨z, hz, q1, q2⟩ := s.done j hjp x hj v hv
      exact ⟨z, hz, q1, by omega⟩
  refine Classical.byContradiction fun h => ?_
  obtain ⟨x, hx, q1, q2⟩ := key w (by omega)
  have : x = e := by
    obtain ⟨i, hi⟩ := List.getElem?_of_mem hx
    obtain ⟨j, hj⟩ := List.getElem?_of_mem he
    have h1 : (W.map (·.1))[i]? = some e.1 := by rw [List.getElem?_map, hi, ← q1]; rfl
    have h2 : (W.map (·.1))[j]? = some e.1 := by rw [List.getElem?_map, hj]; rfl
    have hil := (List.getElem?_eq_some_iff.mp h1).1
    have := (List.getElem?_inj hil s.nd).mp (h1.trans h2.symm)
    subst this
    rw [hi] at hj
    exact Option.some.inj hj
  subst this
  omega
/-- a search that is through has all that can be reached -/
theorem Srch.all {W : List (α × Nat)} {pos : Nat} (s : Srch nb b W pos) (h : W.length ≤ pos) {v : α} {m : Nat} (w : Way nb b v m) : v ∈ W.map (·.1) := by
  induction w with
  | nil => exact List.mem_map_of_mem (f := Prod.fst) (List.mem_of_getElem? s.head)
  | @cons y v i w hv ih =>
    obtain ⟨x, hx, rfl⟩ := List.mem_map.mp ih
    obtain ⟨j, hj⟩ := List.getElem?_of_mem hx
    have hjl := (List.getElem?_eq_some_iff.mp hj).1
    obtain ⟨z, hz, q1, _⟩ := s.done j (by omega) x hj v hv
    exact q1 ▸ List.mem_map_of_mem hz
end
end Nn

namespace Nn
open PySem PySem.Spec PyProof.Rows L2
/-! ### the neighbours of a row of places -/
def freeL (ns : List Str) (g p : Pl) (k : Nat) : List (Option Str) := (ns.filter fun z => !decide (some z ∈ p)).map some ++ (if g[k]? = some none then [none] else [])
def furF (ns : List Str) (g p : Pl) (k : Nat) : List Pl := if p[k]? = some none then [] else (freeL ns g p k).map fun x => p.take k ++ [x] ++ p.drop (k + 1)
def furtherF (ns : List Str) (g p : Pl) : List Pl := (List.range p.length).flatMap (furF ns g p)
theorem set_cut {p : Pl} {k : Nat} (h : k < p.length) (x : Option Str) : p.take k ++ [x] ++ p.drop (k + 1) = p.set k x := by
  rw [List.append_assoc, List.set_eq_take_append_cons_drop, if_pos h]; rfl
structure MvN (ns : List Str) (g p p' : Pl) : Prop where
  ex : ∃ (k : Nat) (y : Str) (x : Option Str), p[k]? = some (some y) ∧ p' = p.set k x ∧ (∀ z, x = some z → z ∈ ns ∧ some z ∉ p) ∧ (x = none → g[k]? = some none)
theorem MvN.mv {ns : List Str} {g p p' : Pl} (h : MvN ns g p p') : Mv g p p' := by
  obtain ⟨k, y, x, h1, h2, h3, h4⟩ := h.ex
  exact ⟨k, y, x, h1, h2, fun z hz => (h3 z hz).2, h4⟩
theorem mem_further {ns : List Str} {g p p' : Pl} : p' ∈ furtherF ns g p ↔ MvN ns g p p' := by
  unfold furtherF
  rw [List.mem_flatMap]
  constructor
  · rintro ⟨k, hk, h⟩
    have hk := List.mem_range.mp hk
    unfold furF at h
    split at h
    · cases h
    · rename_i hne
      obtain ⟨x, hx, rfl⟩ := List.mem_map.mp h
      have hp : p[k]? = some p[k] := List.getElem?_eq_getElem hk
      cases hy : p[k] with
      | none => rw [hp, hy] at hne; exact absurd rfl hne
      | some y =>
        refine ⟨k, y, x, by rw [hp, hy], set_cut hk x, ?_, ?_⟩
        · rintro z rfl
          unfold freeL at hx
          rcases List.mem_append.mp hx with hx | hx
          · obtain ⟨w, hw, e⟩ := List.mem_map.mp hx
            cases e
            obtain ⟨h1, h2⟩ := List.mem_filter.mp hw
            exact ⟨h1, by simpa using h2⟩
          · split at hx
            · simp at hx
            · cases hx
        · rintro rfl
          unfold freeL at hx
          rcases List.mem_append.mp hx with hx | hx
          · obtain ⟨w, _, e⟩ := List.mem_map.mp hx
            cases e
          · split at hx
            · rename_i h; exact h
            · cases hx
  · rintro ⟨k, y, x, hp, rfl, h1, h2⟩
    have hk := (List.getElem?_eq_some_iff.mp hp).1
    refine ⟨k, List.mem_range.mpr hk, ?_⟩
    unfold furF
    rw [if_neg (by rw [hp]; simp)]
    refine List.mem_map.mpr ⟨x, ?_, set_cut hk x⟩
    unfold freeL
    cases x with
    | none => exact List.mem_append_right _ (by rw [if_pos (h2 rfl)]; simp)
    | some z =>
      obtain ⟨a, b⟩ := h1 z rfl
      exact List.mem_append_left _ (List.mem_map_of_mem (f := some) (List.mem_filter.mpr ⟨a, by simpa using b⟩))
/-! ### ways and rows -/
section
variable {ns : List Str} {g p b : Pl} {m j : Nat}
inductive RowN (ns : List Str) (g : Pl) : Pl → Nat → Prop
  | nil : RowN ns g g 0
  | cons {p p' : Pl} {m : Nat} : MvN ns g p p' → RowN ns g p' m → RowN ns g p (m + 1)
theorem RowN.row (h : RowN ns g p m) : Row g p m := by
  induction h with
  | nil => exact .nil
  | cons h _ ih => exact .cons h.mv ih
theorem RowN.way (h : RowN ns g p m) : ∀ {j : Nat}, Way (furtherF ns g) b p j → Way (furtherF ns g) b g (j + m) := by
  induction h with
  | nil => intro j w; exact w
  | @cons p p' m h _ ih =>
    intro j w
    have := ih (.cons w (mem_further.mpr h))
    rw [show j + (m + 1) = j + 1 + m by omega]
    exact this
theorem Way.row (h : Way (furtherF ns g) b p j) : ∀ {m : Nat}, Row g p m → Row g b (j + m) := by
  induction h with
  | nil => intro m r; rw [Nat.zero_add]; exact r
  | @cons u v j w hv ih =>
    intro m r
    have := ih (.cons (mem_further.mp hv).mv r)
    rw [show j + 1 + m = j + (m + 1) by omega]
    exact this
/-- all rows of n places -/
def allP (ns : List Str) : Nat → List Pl
  | 0 => [[]]
  | n + 1 => (none :: ns.map some).flatMap fun x => (allP ns n).map (x :: ·)
theorem allP_len (ns : List Str) : ∀ n, (allP ns n).length = (ns.length + 1) ^ n
  | 0 => rfl
  | n + 1 => by
    unfold allP
    rw [List.length_flatMap]
    have e : (fun x : Option Str => ((allP ns n).map (x :: ·)).length) = fun _ => (ns.length + 1) ^ n := funext fun x => by rw [List.length_map, allP_len ns n]
    rw [e, List.map_const', List.sum_replicate_nat, List.length_cons, List.length_map, Nat.pow_succ, Nat.mul_comm]
theorem mem_allP : ∀ {n : Nat} {p : Pl}, p ∈ allP ns n ↔ p.length = n ∧ ∀ z, some z ∈ p → z ∈ ns
  | 0, p => by
    unfold allP
    rw [List.mem_singleton]
    constructor
    · rintro rfl; exact ⟨rfl, fun z h => by cases h⟩
    · rintro ⟨h, _⟩; exact List.length_eq_zero_iff.mp h
  | n + 1, p => by
    unfold allP
    rw [List.mem_flatMap]
    constructor
    · rintro ⟨x, hx, h⟩
      obtain ⟨q, hq, rfl⟩ := List.mem_map.mp h
      obtain ⟨h1, h2⟩ := mem_allP.mp hq
      refine ⟨by rw [List.length_cons, h1], fun z hz => ?_⟩
      rcases List.mem_cons.mp hz with e | hz
      · rw [← e] at hx
        rcases List.mem_cons.mp hx with e | hx
        · cases e
        · obtain ⟨w, hw, e⟩ := List.mem_map.mp hx
          cases e; exact hw
      · exact h2 z hz
    · rintro ⟨h1, h2⟩
      cases p with
      | nil => cases h1
      | cons x q =>
        refine ⟨x, ?_, List.mem_map.mpr ⟨q, mem_allP.mpr ⟨Nat.succ.inj h1, fun z hz => h2 z (List.mem_cons_of_mem _ hz)⟩, rfl⟩⟩
        cases x with
        | none => exact List.mem_cons_self
        | some z => exact List.mem_cons_of_mem _ (List.mem_map_of_mem (f := some) (h2 z List.mem_cons_self))
theorem way_allP {n : Nat} (hb : b ∈ allP ns n) (w : Way (furtherF ns g) b p j) : p ∈ allP ns n := by
  induction w with
  | nil => exact hb
  | @cons u v j w hv ih =>
    obtain ⟨h1, h2⟩ := mem_allP.mp ih
    obtain ⟨k, y, x, hp, rfl, a, _⟩ := (mem_further.mp hv).ex
    refine mem_allP.mpr ⟨by rw [List.length_set]; exact h1, fun z hz => ?_⟩
    rcases List.mem_or_eq_of_mem_set hz with h | h
    · exact h2 z h
    · exact (a z h.symm).1
/-! ### the deeds as a row -/
/-- thing i stands where p says -/
structure Rel (h : HeldF) (p : Pl) : Prop where
  at_ : ∀ z v, h z = some v ↔ ∃ i : Nat, v = .int i ∧ p[i]? = some (some z)
  uni : ∀ (i j : Nat) z, p[i]? = some (some z) → p[j]? = some (some z) → i = j
theorem Rel.same {h : HeldF} {q : Pl} (a : Rel h p) (b : Rel h q) (e : p.length = q.length) : p = q := by
  refine List.ext_getElem? fun i => ?_
  have key : ∀ {p q : Pl}, Rel h p → Rel h q → ∀ z, p[i]? = some (some z) → q[i]? = some (some z) := fun {p q} a b z hz => by
    obtain ⟨j, e, hj⟩ := (b.at_ z (.int i)).mp ((a.at_ z (.int i)).mpr ⟨i, rfl, hz⟩)
    have : i = j := by
      have e : (i : Int) = (j : Int) := V.int.inj e
      omega
    subst this
    exact hj
  cases hp : p[i]? with
  | none => rw [List.getElem?_eq_none_iff] at hp; exact (List.getElem?_eq_none_iff.mpr (by omega)).symm
  | some o =>
    cases o with
    | some z => exact (key a b z hp).symm
    | none =>
      cases hq : q[i]? with
      | none =>
        rw [List.getElem?_eq_none_iff] at hq
        have := (List.getElem?_eq_some_iff.mp hp).1
        omega
      | some o =>
        cases o with
        | none => rfl
        | some z => rw [key b a z hq] at hp; cases hp
theorem RowN.none (r : RowN ns g p m) {k : Nat} (h : p[k]? = some none) : g[k]? = some none := by
  induction r with
  | nil => exact h
  | @cons p p' m mv _ ih =>
    obtain ⟨i, y, x, hp, rfl, _, _⟩ := mv.ex
    refine ih ?_
    have : i ≠ k := fun e => by subst e; rw [hp] at h; cases h
    rw [List.getElem?_set_ne this]
    exact h
theorem RowN.len (r : RowN ns g p m) : p.length = g.length := by
  induction r with
  | nil => rfl
  | @cons p p' m mv _ ih =>
    obtain ⟨i, y, x, hp, rfl, _, _⟩ := mv.ex
    rw [List.length_set] at ih
    exact ih
theorem rel_drop {h : HeldF} (r : Rel h p) {c : Str} {k : Nat} (hk : p[k]? = some (some c)) : Rel (fun z => if z = c then none else h z) (p.set k none) := by
  have hkl := (List.getElem?_eq_some_iff.mp hk).1
  have get : ∀ (i : Nat) (z : Str), (p.set k none)[i]? = some (some z) ↔ i ≠ k ∧ p[i]? = some (some z) := fun i z => by
    by_cases e : i = k
    · subst e
      rw [List.getElem?_set_self hkl]
      exact ⟨fun q => (by cases q), fun q => absurd rfl q.1⟩
    · rw [List.getElem?_set_ne (Ne.symm e)]
      exact ⟨fun q => ⟨e, q⟩, fun q => q.2⟩
  refine ⟨fun z v => ?_, fun i j z hi hj => r.uni i j z ((get i z).mp hi).2 ((get j z).mp hj).2⟩
  show (if z = c then none else h z) = some v ↔ _
  by_cases e : z = c
  · rw [if_pos e]
    refine ⟨fun q => (by cases q), ?_⟩
    rintro ⟨i, _, hi⟩
    obtain ⟨h1, h2⟩ := (get i z).mp hi
    exact absurd (r.uni i k z h2 (e ▸ hk)) h1
  · rw [if_neg e, r.at_]
    constructor
    · rintro ⟨i, q, hi⟩
      exact ⟨i, q, (get i z).mpr ⟨fun e2 => by subst e2; rw [hk] at hi; exact e (Option.some.inj (Option.some.inj hi)).symm, hi⟩⟩
    · rintro ⟨i, q, hi⟩
      exact ⟨i, q, ((get i z).mp hi).2⟩
theorem rel_move {h : HeldF} (r : Rel h p) {c a : Str} {k : Nat} (hk : p[k]? = some (some c)) (ha : h a = none) : Rel (fun z => if z = c then none else if z = a then h c else h z) (p.set k (some a)) := by
  have hkl := (List.getElem?_eq_some_iff.mp hk).1
  have hac : a ≠ c := fun e => by
    have := (r.at_ c (.int k)).mpr ⟨k, rfl, hk⟩
    rw [← e, ha] at this
    cases this
  have hna : ∀ i : Nat, p[i]? ≠ some (some a) := fun i hi => by
    have := (r.at_ a (.int i)).mpr ⟨i, rfl, hi⟩
    rw [ha] at this
    cases this
  have get : ∀ (i : Nat) (z : Str), (p.set k (some a))[i]? = some (some z) ↔ (i = k ∧ z = a) ∨ (i ≠ k ∧ p[i]? = some (some z)) := fun i z => by
    by_cases e : i = k
    · subst e
      rw [List.getElem?_set_self hkl]
      exact ⟨fun q => .inl ⟨rfl, (Option.some.inj (Option.some.inj q)).symm⟩, fun q => q.elim (fun q => by rw [q.2]) fun q => absurd rfl q.1⟩
    · rw [List.getElem?_set_ne (Ne.symm e)]
      exact ⟨fun q => .inr ⟨e, q⟩, fun q => q.elim (fun q => absurd q.1 e) fun q => q.2⟩
  refine ⟨fun z v => ?_, fun i j z hi hj => ?_⟩
  · show (if z = c then none else if z = a then h c else h z) = some v ↔ _
    by_cases e : z = c
    · rw [if_pos e]
      refine ⟨fun q => (by cases q), ?_⟩
      rintro ⟨i, _, hi⟩
      rcases (get i z).mp hi with ⟨_, h2⟩ | ⟨h1, h2⟩
      · exact absurd (h2.symm.trans e) hac
      · exact absurd (r.uni i k z h2 (e ▸ hk)) h1
    · rw [if_neg e]
      by_cases e2 : z = a
      · rw [if_pos e2, r.at_]
        constructor
        · rintro ⟨i, q, hi⟩
          have := r.uni i k c hi hk
          exact ⟨i, q, (get i z).mpr (.inl ⟨this, e2⟩)⟩
        · rintro ⟨i, q, hi⟩
          rcases (get i z).mp hi with ⟨h1, _⟩ | ⟨_, h2⟩
          · exact ⟨i, q, h1 ▸ hk⟩
          · exact absurd (e2 ▸ h2) (hna i)
      · rw [if_neg e2, r.at_]
        constructor
        · rintro ⟨i, q, hi⟩
          exact ⟨i, q, (get i z).mpr (.inr ⟨fun e3 => by subst e3; rw [hk] at hi; exact e (Option.some.inj (Option.some.inj hi)).symm, hi⟩)⟩
        · rintro ⟨i, q, hi⟩
          rcases (get i z).mp hi with ⟨_, h2⟩ | ⟨_, h2⟩
          · exact absurd h2 e2
          · exact ⟨i, q, h2⟩
  · rcases (get i z).mp hi with ⟨h1, h2⟩ | ⟨h1, h2⟩ <;> rcases (get j z).mp hj with ⟨h3, h4⟩ | ⟨h3, h4⟩
    · rw [h1, h3]
    · exact absurd (h2 ▸ h4) (hna j)
    · exact absurd (h4 ▸ h2) (hna i)
    · exact r.uni i j z h2 h4
theorem play_row : ∀ {ds : List (List Str)} {h h' : HeldF} {p : Pl}, Rel h p → playG h ds = some h' → Rel h' g → p.length = g.length → (∀ d ∈ ds, (∃ c, d = drD c) ∨ ∃ c a, d = mvD c a ∧ a ∈ ns) → RowN ns g p ds.length
  | [], h, h', p, r, e, r', hl, _ => by
    cases e
    rw [r.same r' hl]
    exact .nil
  | d :: ds, h, h', p, r, e, r', hl, hd => by
    cases hs : stepG h d with
    | none =>
      have e : (match stepG h d with | some g' => playG g' ds | none => none) = some h' := e
      rw [hs] at e
      cases e
    | some h1 =>
      rw [play_cons hs] at e
      have hd' := fun d hd2 => hd d (List.mem_cons_of_mem _ hd2)
      rcases hd d List.mem_cons_self with ⟨c, rfl⟩ | ⟨c, a, rfl, ha⟩
      · have hs : (if ("drop" : Str) = "drop" ∧ (h c).isSome = true then some (fun z => if z = c then none else h z) else none) = some h1 := hs
        split at hs
        · rename_i q
          cases hs
          obtain ⟨v, hv⟩ := Option.isSome_iff_exists.mp q.2
          obtain ⟨k, _, hk⟩ := (r.at_ c v).mp hv
          have rr := play_row (rel_drop r hk) e r' (by rw [List.length_set]; exact hl) hd'
          refine .cons ⟨k, c, none, hk, rfl, (fun z hz => by cases hz), fun _ => ?_⟩ rr
          exact rr.none (List.getElem?_set_self (List.getElem?_eq_some_iff.mp hk).1)
        · cases hs
      · have hs : (if ("move" : Str) = "move" ∧ (h c).isSome = true ∧ h a = none then some (fun z => if z = c then none else if z = a then h c else h z) else none) = some h1 := hs
        split at hs
        · rename_i q
          cases hs
          obtain ⟨v, hv⟩ := Option.isSome_iff_exists.mp q.2.1
          obtain ⟨k, _, hk⟩ := (r.at_ c v).mp hv
          have rr := play_row (rel_move r hk q.2.2) e r' (by rw [List.length_set]; exact hl) hd'
          refine .cons ⟨k, c, some a, hk, rfl, (fun z hz => ?_), fun q => by cases q⟩ rr
          cases hz
          refine ⟨ha, fun hm => ?_⟩
          obtain ⟨i, hi⟩ := List.getElem?_of_mem hm
          have := (r.at_ a (.int i)).mpr ⟨i, rfl, hi⟩
          rw [q.2.2] at this
          cases this
        · cases hs
end
end Nn

namespace Nn
open PySem PySem.Spec PyProof.Rows L2
section
variable {nm ns : List Str} {lv : Prs} {sp : Option Str}
/-- the things, by their numbers -/
def tdN (nm : List Str) : List (Str × V) := nm.zipIdx.map fun e => (e.1, V.int (e.2 : Nat))
theorem tdN_keys : (tdN nm).map (·.1) = nm := by
  unfold tdN
  rw [List.map_map, show ((fun x : Str × V => x.1) ∘ fun e : Str × Nat => (e.1, V.int (e.2 : Nat))) = Prod.fst from rfl, List.zipIdx_map_fst]
theorem mem_tdN {z : Str} {v : V} : (z, v) ∈ tdN nm ↔ ∃ i : Nat, v = .int i ∧ nm[i]? = some z := by
  unfold tdN
  rw [List.mem_map]
  constructor
  · rintro ⟨⟨y, i⟩, h, e⟩
    cases e
    exact ⟨i, rfl, List.mem_zipIdx_iff_getElem?.mp h⟩
  · rintro ⟨i, rfl, h⟩
    exact ⟨(z, i), List.mem_zipIdx_iff_getElem?.mpr h, rfl⟩
def placesF (nm : List Str) : Pl := nm.map some
def goalsF (lv : Prs) (nm : List Str) : Pl := nm.map (toO lv)
theorem places_at {i : Nat} {z : Str} : (placesF nm)[i]? = some (some z) ↔ nm[i]? = some z := by
  unfold placesF
  rw [List.getElem?_map]
  cases h : nm[i]? with
  | none => simp
  | some y => simp
theorem goals_at {i : Nat} {o : Option Str} : (goalsF lv nm)[i]? = some o ↔ ∃ x, nm[i]? = some x ∧ toO lv x = o := by
  unfold goalsF
  rw [List.getElem?_map]
  cases h : nm[i]? with
  | none => simp
  | some y => simp
theorem deeds_in {Pn : Str → Prop} (ho : ∀ z ∈ lv.map (·.1), Pn z) (hn : ∀ z ∈ lv.filterMap (·.2), Pn z) (hs : ringsF lv ≠ [] → Pn (sp.getD "")) : ∀ r ∈ deedsF lv sp, (∃ c, r = drD c) ∨ ∃ c a, r = mvD c a ∧ Pn a := by
  intro r hr
  have mv : ∀ {a b : Str}, Pn b → (∃ c, mvD a b = drD c) ∨ ∃ c x, mvD a b = mvD c x ∧ Pn x := fun {a b} hb => .inr ⟨a, b, rfl, hb⟩
  have upk : ∀ {l : List Str}, (∀ x ∈ l, Pn x) → ∀ r ∈ upM l, (∃ c, r = drD c) ∨ ∃ c a, r = mvD c a ∧ Pn a := by
    intro l
    induction l with
    | nil => intro _ r hr; cases hr
    | cons a l ih =>
      intro h r hr
      cases l with
      | nil => cases hr
      | cons b l =>
        rcases List.mem_cons.mp hr with e | hr
        · rw [e]; exact mv (h a (by simp))
        · exact ih (fun x hx => h x (List.mem_cons_of_mem _ hx)) r hr
  have upa : ∀ {z : Str}, Pn z → ∀ x ∈ upAt (toOf lv) z, Pn x := fun {z} hz x hx => by
    unfold upAt at hx
    split at hx
    · rename_i hh
      have sp := Exists.choose_spec hh
      obtain ⟨i, hi⟩ := List.getElem?_of_mem hx
      cases i with
      | zero => rw [sp.hd] at hi; cases hi; exact hz
      | succ i =>
        have hil := (List.getElem?_eq_some_iff.mp hi).1
        exact ho x (toOf_key _ _ (sp.st i _ _ (List.getElem?_eq_getElem (by omega)) hi))
    · cases hx
  unfold deedsF at hr
  rcases List.mem_append.mp hr with hr | hr
  · obtain ⟨e, he, hr⟩ := List.mem_flatMap.mp hr
    unfold chainE at hr
    cases h : e.2 with
    | none =>
      rw [h] at hr
      rcases List.mem_cons.mp hr with e1 | hr
      · exact .inl ⟨e.1, e1⟩
      · exact upk (upa (ho _ (List.mem_map_of_mem he))) r hr
    | some n =>
      rw [h] at hr
      have hr : r ∈ (if n ∈ lv.map (·.1) then [] else upM (upAt (toOf lv) n)) := hr
      split at hr
      · cases hr
      · exact upk (upa (hn n (List.mem_filterMap.mpr ⟨e, he, h⟩))) r hr
  · obtain ⟨l, hl, hr⟩ := List.mem_flatMap.mp hr
    have gs := hs fun e => by rw [e] at hl; cases hl
    obtain ⟨o1, o2, o3⟩ := ringsF_ok hl
    have gd : ∀ i, i < l.length → Pn (l.getD i "") := fun i hi => by
      rw [List.getD_eq_getElem?_getD, List.getElem?_eq_getElem hi]
      exact ho _ (o3 _ (List.getElem_mem hi))
    unfold ringD at hr
    rcases List.mem_cons.mp hr with e1 | hr
    · rw [e1]; exact mv gs
    · rcases List.mem_append.mp hr with hr | hr
      · obtain ⟨i, hi, rfl⟩ := List.mem_map.mp hr
        have hi := List.mem_range.mp hi
        exact mv (gd _ (by omega))
      · rw [List.mem_singleton] at hr
        rw [hr]; exact mv (gd _ o1)
theorem rel_places (nd : nm.Nodup) : Rel (lk (tdN nm)) (placesF nm) := by
  refine ⟨fun z v => ?_, fun i j z hi hj => nd_ix nd (places_at.mp hi) (places_at.mp hj)⟩
  rw [lk_mem (by rw [tdN_keys]; exact nd), mem_tdN]
  exact ⟨fun ⟨i, h1, h2⟩ => ⟨i, h1, places_at.mpr h2⟩, fun ⟨i, h1, h2⟩ => ⟨i, h1, places_at.mp h2⟩⟩
theorem rel_goals (gd : Good lv) (nd : nm.Nodup) (ft : Fit nm lv) : Rel (lk (behF (tdN nm) lv)) (goalsF lv nm) := by
  have bnd := beh_nd gd (td := tdN nm) (by rw [tdN_keys]; exact nd) (by rw [tdN_keys]; exact ft)
  have key : ∀ z v, lk (behF (tdN nm) lv) z = some v ↔ ∃ i : Nat, v = .int i ∧ (goalsF lv nm)[i]? = some (some z) := fun z v => by
    rw [lk_mem bnd, mem_beh]
    constructor
    · rintro ⟨x, hx, e⟩
      obtain ⟨i, h1, h2⟩ := mem_tdN.mp hx
      exact ⟨i, h1, goals_at.mpr ⟨x, h2, e⟩⟩
    · rintro ⟨i, h1, h2⟩
      obtain ⟨x, h3, e⟩ := goals_at.mp h2
      exact ⟨x, mem_tdN.mpr ⟨i, h1, h3⟩, e⟩
  refine ⟨key, fun i j z hi hj => ?_⟩
  have h1 := (key z (.int i)).mpr ⟨i, rfl, hi⟩
  have h2 := (key z (.int j)).mpr ⟨j, rfl, hj⟩
  rw [h1] at h2
  have : (i : Int) = j := V.int.inj (Option.some.inj h2)
  omega
theorem deeds_row (gd : Good lv) (nd : nm.Nodup) (ft : Fit nm lv) (hs : ringsF lv ≠ [] → sp.getD "" ∉ nm ∧ sp.getD "" ∉ lv.filterMap (·.2)) (hn : ∀ z ∈ nm, z ∈ ns) (hw : ∀ z ∈ lv.filterMap (·.2), z ∈ ns) (hsn : ringsF lv ≠ [] → sp.getD "" ∈ ns) :
    RowN ns (goalsF lv nm) (placesF nm) (deedsF lv sp).length :=
  play_row (rel_places nd) (deeds_done gd (td := tdN nm) (by rw [tdN_keys]; exact nd) (by rw [tdN_keys]; exact ft) (by rw [tdN_keys]; exact hs)) (rel_goals gd nd ft)
    (by unfold placesF goalsF; rw [List.length_map, List.length_map]) (deeds_in (fun z hz => hn z (ft.olds z hz)) hw hsn)
/-- the place of a name -/
def idx (nm : List Str) (z : Str) : Nat := nm.findIdx fun y => decide (y = z)
theorem idx_at {z : Str} (h : z ∈ nm) : nm[idx nm z]? = some z := by
  have hl : idx nm z < nm.length := List.findIdx_lt_length_of_exists ⟨z, h, decide_eq_true rfl⟩
  have := List.findIdx_getElem (xs := nm) (p := fun y => decide (y = z)) (w := hl)
  rw [List.getElem?_eq_getElem hl]
  exact congrArg some (of_decide_eq_true this)
theorem ring_blk (gd : Good lv) (ft : Fit nm lv) {r : List Str} (hr : r ∈ ringsF lv) : Blk (goalsF lv nm) (placesF nm) (r.map (idx nm)) := by
  obtain ⟨o1, o2, o3⟩ := ringsF_ok hr
  obtain ⟨z0, ir⟩ := ring_cyc hr
  have hm : ∀ x ∈ r, x ∈ nm := fun x hx => ft.olds x (o3 x hx)
  refine ⟨fun e => ?_, fun k hk => ?_⟩
  · rw [List.map_eq_nil_iff.mp e] at o1; cases o1
  · obtain ⟨x, hx, rfl⟩ := List.mem_map.mp hk
    have hi := idx_at (hm x hx)
    obtain ⟨y, hy, e⟩ := ir.toCyc.next hx
    have hj := idx_at (hm y hy)
    have hxy : x ≠ y := fun q => by
      subst q
      -- a ring of two or more does not stand still
      have hg : x ∈ goers lv := List.mem_append_left _ (List.mem_flatten.mpr ⟨r, hr, hx⟩)
      exact goers_ne gd hg e
    refine ⟨by unfold placesF; rw [List.length_map]; exact (List.getElem?_eq_some_iff.mp hi).1, idx nm y, List.mem_map_of_mem hy, fun q => ?_, y, goals_at.mpr ⟨x, hi, by rw [toO_in gd (o3 x hx)]; exact e⟩, places_at.mpr hj, fun q => ?_⟩
    · rw [q, hi] at hj
      exact hxy (Option.some.inj hj)
    · have := places_at.mp q
      rw [hi] at this
      exact hxy (Option.some.inj this)
theorem mis_deeds (gd : Good lv) (nd : nm.Nodup) (ft : Fit nm lv) : misN (goalsF lv nm) (placesF nm) = ((lv.map (·.1)).filter fun c => !decide (toOf lv c = some c)).length := by
  have h1 : misN (goalsF lv nm) (placesF nm) = (nm.filter fun z => decide (toO lv z ≠ some z)).length := by
    unfold misN
    rw [← List.countP_eq_length_filter, ← List.countP_eq_length_filter]
    have hl : (placesF nm).length = nm.length := by unfold placesF; rw [List.length_map]
    rw [hl]
    have e : nm = (List.range nm.length).map fun k => nm.getD k "" := by
      refine List.ext_getElem? fun i => ?_
      rw [List.getElem?_map]
      by_cases hi : i < nm.length
      · rw [List.getElem?_range hi, List.getElem?_eq_getElem hi]
        show _ = some (nm.getD i "")
        rw [List.getD_eq_getElem?_getD, List.getElem?_eq_getElem hi]; rfl
      · rw [List.getElem?_eq_none (by omega), List.getElem?_eq_none (by rw [List.length_range]; omega)]; rfl
    have e2 : nm.countP (fun z => decide (toO lv z ≠ some z)) = ((List.range nm.length).map fun k => nm.getD k "").countP (fun z => decide (toO lv z ≠ some z)) := congrArg _ e
    rw [e2, List.countP_map]
    refine List.countP_congr fun k hk => ?_
    have hk := List.mem_range.mp hk
    have hx : nm[k]? = some (nm.getD k "") := by rw [List.getD_eq_getElem?_getD, List.getElem?_eq_getElem hk]; rfl
    show decide (_ ≠ _) = true ↔ decide (toO lv (nm.getD k "") ≠ some (nm.getD k "")) = true
    rw [decide_eq_true_iff, decide_eq_true_iff, places_at.mpr hx, goals_at.mpr ⟨_, hx, rfl⟩]
    exact ⟨fun h e => h (by rw [e]), fun h e => h (Option.some.inj e).symm⟩
  rw [h1]
  refine List.Perm.length_eq ((List.perm_ext_iff_of_nodup (nd.filter _) (gd.oldsNd.filter _)).mpr fun c => ?_)
  rw [List.mem_filter, List.mem_filter]
  constructor
  · rintro ⟨hm, hc⟩
    have hc : toO lv c ≠ some c := of_decide_eq_true hc
    have ho : c ∈ lv.map (·.1) := Classical.byContradiction fun h => hc (toO_out h)
    refine ⟨ho, ?_⟩
    rw [decide_eq_false (by rw [← toO_in gd ho]; exact hc)]; rfl
  · rintro ⟨ho, hc⟩
    refine ⟨ft.olds c ho, decide_eq_true fun e => ?_⟩
    rw [toO_in gd ho] at e
    rw [decide_eq_true e] at hc
    cases hc
theorem deeds_few (gd : Good lv) (nd : nm.Nodup) (ft : Fit nm lv) {m : Nat} (r : Row (goalsF lv nm) (placesF nm) m) : (deedsF lv sp).length ≤ m := by
  rw [deeds_many gd sp, ← mis_deeds gd nd ft]
  have h := few r ((ringsF lv).map (·.map (idx nm))) (fun b hb => by
    obtain ⟨q, hq, rfl⟩ := List.mem_map.mp hb
    exact ring_blk gd ft hq) (by
    rw [List.pairwise_map]
    refine (rings_pw gd).imp_of_mem fun {a b} ha hb h k hk hk2 => ?_
    obtain ⟨x, hx, rfl⟩ := List.mem_map.mp hk
    obtain ⟨y, hy, e⟩ := List.mem_map.mp hk2
    have h1 := idx_at (ft.olds x ((ringsF_ok ha).2.2 x hx))
    have h2 := idx_at (ft.olds y ((ringsF_ok hb).2.2 y hy))
    rw [e, h1] at h2
    exact h x hx (Option.some.inj h2 ▸ hy))
  rw [List.length_map] at h
  exact h
/-- the least way is as long as the deeds -/
theorem deeds_least (gd : Good lv) (nd : nm.Nodup) (ft : Fit nm lv) (hs : ringsF lv ≠ [] → sp.getD "" ∉ nm ∧ sp.getD "" ∉ lv.filterMap (·.2)) (hn : ∀ z ∈ nm, z ∈ ns) (hw : ∀ z ∈ lv.filterMap (·.2), z ∈ ns) (hsn : ringsF lv ≠ [] → sp.getD "" ∈ ns) {l : Nat}
    (w : Way (furtherF ns (goalsF lv nm)) (placesF nm) (goalsF lv nm) l) (hl : ∀ m, Way (furtherF ns (goalsF lv nm)) (placesF nm) (goalsF lv nm) m → l ≤ m) : (deedsF lv sp).length = l := by
  have h1 := deeds_few (sp := sp) gd nd ft (w.row (m := 0) .nil)
  have h2 := hl _ ((deeds_row gd nd ft hs hn hw hsn).way .nil)
  omega
end
end Nn

namespace Nn
open PySem PySem.Spec PyProof.Rows L2
local macro_rules | `(tactic| walk_at "rd1") => `(tactic| first
  | with_reducible refine' rd_c ?_
  | ((with_reducible refine' rd_var ?h ?_); (case h => rfl))
  | with_reducible refine' rd_op ?_
  | with_reducible refine' rd_I0 ?_
  | with_reducible refine' rd_seq ?_
  | ((with_reducible refine' rd_mod ?h ?_); (case h => decide))
  | ((with_reducible refine' rd_fdiv ?h ?_); (case h => exact ⟨by decide, by decide⟩))
  | ((with_reducible refine' rd_pow ?h ?_); (case h => exact ⟨by decide, by decide, by decide⟩))
  | ((with_reducible refine' rd_mul ?h ?_); (case h => first | exact Or.inl (by decide) | exact Or.inr (by decide)))
  | with_reducible refine' rd_set ?_
  | with_reducible refine' rd_asg ?_
  | with_reducible refine' rd_cons ?_
  | with_reducible refine' rd_nil ?_
  | with_reducible refine' rd_call ?_
  | with_reducible refine' rd_cb ?_
  | with_reducible refine' rd_if ?_
  | with_reducible refine' rd_test ?_
  | with_reducible refine' rd_B ?_
  | with_reducible refine' rd_bl ?_
  | ((with_reducible refine' rd_eq ?h ?_); (case h => rfl))
  | ((with_reducible refine' rd_ne ?h ?_); (case h => rfl))
  | with_reducible refine' rd_not ?_
  | with_reducible refine' rd_and ?_
  | with_reducible refine' rd_or ?_
  | with_reducible refine' rd_notV ?_
  | with_reducible refine' rd_chain ?_
  | with_reducible refine' rd_ret ?_
  | with_reducible refine' rd_drop ?_
  | with_reducible refine' rd_next' ?_
  | with_reducible refine' rd_lst ?_
  | with_reducible refine' rd_tup ?_
  | with_reducible refine' rd_lc ?_
  | with_reducible refine' rd_rng1 ?_
  | with_reducible refine' rd_istr ?_
  | with_reducible refine' rd_ilst ?_
  | with_reducible refine' rd_ienum ?_
  | with_reducible refine' rd_bm0 ?_
  | with_reducible refine' rd_bm ?_
  | with_reducible refine' rd_m1 ?_
  | with_reducible refine' rd_sl ?_
  | with_reducible refine' rd_po0 ?_
  | with_reducible refine' rd_po1 ?_
  | with_reducible refine' rd_in ?_
  | with_reducible refine' rd_sub ?_
  | with_reducible refine' rd_ifE ?_
  | with_reducible refine' rd_un ?_
  | with_reducible refine' rd_U ?_
  | with_reducible refine' rd_brk ?_
  | with_reducible refine' rd_cont ?_
  | with_reducible refine' rd_yes ?_
  | with_reducible refine' rd_T ?_
  | with_reducible refine' rd_F ?_
  | with_reducible refine' rd_nT ?_
  | with_reducible refine' rd_nF ?_
  | with_reducible refine' rd_dni ?_
  | with_reducible refine' rd_di ?_
  | with_reducible refine' rd_dget ?_
  | with_reducible refine' rd_dget1 ?_
  | with_reducible refine' rd_dget2 ?_
  | with_reducible refine' rd_dget2N ?_
  | with_reducible refine' rd_dpop1 ?_
  | with_reducible refine' rd_ddel ?_
  | with_reducible refine' rd_mkN ?_
  | with_reducible refine' rd_mkV ?_
  | with_reducible refine' rd_dput ?_
  | with_reducible refine' rd_dnew ?_
  | with_reducible refine' rd_ikeys ?_
  | with_reducible refine' rd_gn ?_
  | with_reducible refine' rd_for ?_
  | with_reducible refine' rd_make ?_
  | with_reducible refine' rd_meth ?_
  | with_reducible refine' rd_fld ?_
  | with_reducible refine' rd_sfld ?_
  | with_reducible refine' rd_dc ?_
  | with_reducible refine' rd_items ?_
  | with_reducible refine' rd_sadd ?_
  | with_reducible refine' rd_ivals ?_
  | with_reducible refine' rd_callS ?_
  | with_reducible refine' rd_makeS ?_
  | with_reducible refine' rd_methS ?_
  | with_reducible refine' rd_fldH ?_
  | with_reducible refine' rd_mkO ?_)
local macro_rules | `(tactic| walk_at "sub") => `(tactic| repeat' (first | exact List.nil_sublist _ | exact List.Sublist.refl _ | apply List.Sublist.cons₂ | apply List.Sublist.cons))
local macro_rules | `(tactic| walk_at "rd") => `(tactic| repeat walk_at "rd1")

section
variable {P : Program} {w : World} {K : PySem.W.Frag} {mg : Str → Option Value} {base : Heap}
/-! ### _law_further -/
/-- a tuple of places at its address -/
def tQ (x : Addr × Pl) : Addr × HO := (x.1, .tup (vP x.2))
theorem freeL_len {ns : List Str} {g p : Pl} {k : Nat} : (freeL ns g p k).length ≤ ns.length + 1 := by
  unfold freeL
  rw [List.length_append, List.length_map]
  have := List.length_filter_le (fun z => !decide (some z ∈ p)) ns
  split
  · simp only [List.length_singleton]; omega
  · simp only [List.length_nil]; omega
theorem furF_len {ns : List Str} {g p : Pl} {k : Nat} : (furF ns g p k).length ≤ ns.length + 1 := by
  unfold furF
  split
  · exact Nat.zero_le _
  · rw [List.length_map]; exact freeL_len
theorem sIx_to {n k : Nat} (h : k ≤ n) : HT.sIx n n (some (k : Int)) = k := by rw [HT.sIx_nat]; omega
theorem sIx_from {n k : Nat} (h : k ≤ n) : HT.sIx n 0 (some (k : Int)) = k := by rw [HT.sIx_nat]; omega
section
variable {M : List Addr} {H0 H : Hp} {L T : List (Addr × HO)} {Q : VK}
/-- t + u, both known and never changed -/
theorem rd_catA (A : At M H0 H L T) {a b : Addr} {xs ys : List V} (ha : (a, HO.tup xs) ∈ T) (hb : (b, HO.tup ys) ∈ T) (hz : xs.length + ys.length ≤ sizeLine) (q : ∀ p H' T', (∀ e ∈ T, e ∈ T') → (p, HO.tup (xs ++ ys)) ∈ T' → At M H0 H' L T' → Q (.ref p) H') : rCatA K (.ref a) (.ref b) H Q := by
  refine ⟨a, b, xs, ys, rfl, rfl, .inl (.inl (A.tm _ ha)), .inl (.inl (A.tm _ hb)), hz, fun hx => ?_, fun _ hy => ?_, fun _ _ p hp => ?_⟩
  · subst hx
    exact q b H T (fun _ h => h) hb A
  · subst hy
    exact q a H T (fun _ h => h) (by rw [List.append_nil]; exact ha) A
  · exact q p _ _ (fun e he => List.mem_append_left _ he) (List.mem_append_right _ (List.mem_singleton.mpr rfl)) (A.snocT hp _)
end
def spFurther (K : PySem.W.Frag) : Sp := fun vs H Q _ => ∃ (a b c : Addr) (p g : Pl) (ns : List Str), vs = [.ref a, .ref b, .ref c] ∧ H a = some (.tup (vP p)) ∧ SqL K H b (ns.map V.str) ∧ H c = some (.tup (vP g)) ∧ p.length ≤ g.length ∧ p.length ≤ 10 ∧ ns.length ≤ 10 ∧
  ∀ H' pr (te : List (Addr × Pl)), te.map (·.2) = furtherF ns g p → H pr = none → H' pr = some (.lst (te.map fun x => V.ref x.1)) → (∀ x ∈ te.map tQ, H x.1 = none ∧ H' x.1 = some x.2) → Kp [] H H' → Q (.ref pr) H'
theorem ok__law_further {f : Addr} {fd : FuncData} (F : Fun K "_law_further" "_law_further" s_law_further f fd) (B : Blt mg) : FnOk P w K mg base CX0 1 f fd P_law_further (spFurther K) := by
  refine F.ok sc_law_further (fun vs H Q E h => by obtain ⟨a, b, c, p, g, ns, rfl, _⟩ := h; rfl) (fun cdv A outer s0 H vs Q E hr h => ?_)
  obtain ⟨a, b, c, p, g, ns, rfl, ha, hb, hc, hpg, hpl, hnl, q⟩ := h
  refine ⟨_, pss_cons (ps_set (i := 3) sc_law_further.nd rfl (Or.inl rfl) (pe_lst pa_nil))
  (pss_cons (ps_for PassesOwn.never rfl (pi_range1 (by rfl) B.range (pa_cons (pe_callB call_len_seq (by rfl) B.len (by decide +kernel) (pa_cons (pv 0) pa_nil)) pa_nil)) (pg_name (i := 4) sc_law_further.nd rfl (Or.inr rfl))
   (pss_one (ps_if (pt_cmpR op_notN (pe_ix ix_tup (pv 0) (pv 4) (fun _ _ => rfl)) pe_non (nomark _)) (pss_cons (ps_setLc (i := 5) (own := [("_law_name", 6)]) rfl sc_law_further.nd rfl rfl (sw_true rfl rfl rfl (by decide +kernel)) (pi_list (pv 1)) (blkOk_by (N := N_law_further) (sc := defScope s_law_further) (by decide +kernel)) (fun _ _ _ _ _ => (pg_name (i := 6) sc_law_further.nd rfl (Or.inl rfl))) (fun _ _ _ _ _ => pts_one (pt_cmpR (op_notIn_seq' (K := K) rfl) (pv 6) (pv 0) (by rfl))) (fun _ _ _ _ _ => (pv 6)))
  (Evl.pss_cut (ps_if (pt_cmpR op_isN (pe_ix ix_tup (pv 2) (pv 4) (fun _ _ => rfl)) pe_non (nomark _)) (pss_one (ps_set (i := 5) sc_law_further.nd rfl (Or.inl rfl) (pe_op op_cat (pv 5) (pe_lst (pa_cons pe_non pa_nil)))))
   (pss_nil))
  (pss_one (ps_set (i := 3) sc_law_further.nd rfl (Or.inl rfl) (pe_op op_cat (pv 3) (pe_lc (own := [("_law_name", 6)]) rfl sc_law_further.nd (pi_list (pv 5)) (blkOk_by (N := N_law_further) (sc := defScope s_law_further) (by decide +kernel)) (fun _ _ _ _ _ => (pg_name (i := 6) sc_law_further.nd rfl (Or.inl rfl))) (fun _ _ _ _ _ => pts_nil) (fun _ _ _ _ _ => (pe_op (op_catA' (K := K) rfl) (pe_op (op_catA' (K := K) rfl) (pe_slice (sl_tupA' (K := K) rfl) (pv 0) po_none (po_some (pv 4))) (pe_tup (pa_cons (pv 6) pa_nil))) (pe_slice (sl_tupA' (K := K) rfl) (pv 0) (po_some (pe_op op_add (pv 4) pe_int)) po_none)))))))))
   (pss_nil))))
  (pss_one (ps_ret (pv 3)))), ?_⟩
  have A := At.nil H
  walk_at "rd"
  refine ⟨szl, fun pf hpf => A.u2 hpf fun H1 A1 => ?_⟩
  walk_at "rd"
  refine ⟨a, _, rfl, .inr (.inl (.inl (A1.base _ _ ha (by simp)))), ?_⟩
  walk_at "rd"
  have hvl : (vP p).length = p.length := by unfold vP; rw [List.length_map]
  have hgl : (vP g).length = g.length := by unfold vP; rw [List.length_map]
  refine ⟨_, rfl, by omega, by rw [hvl]; omega, ?_⟩
  rw [hvl, show ((p.length : Nat) : Int).toNat = p.length from rfl]
  refine forI (walk_range (lo := 0) (n := p.length)) (fun i σ H' => ∃ (pf : Addr) (te : List (Addr × Pl)) (y4 y5 : Option V), σ = [some (.ref a), some (.ref b), some (.ref c), some (.ref pf), y4, y5, none] ∧ te.map (·.2) = (List.range i).flatMap (furF ns g p) ∧ At [] H H' [(pf, .lst (te.map fun x : Addr × Pl => V.ref x.1))] (te.map tQ))
    ⟨pf, [], _, _, rfl, rfl, A1⟩ (fun _ _ _ _ _ => trivial) ?_ ?_
  · rintro i x σ H2 H2' hi ⟨pf, te, y4, y5, rfl, hte, A2⟩ ⟨rfl, rfl⟩
    have hsum : ∀ n, ((List.range n).flatMap (furF ns g p)).length ≤ n * 11 := by
      intro n
      induction n with
      | zero => exact Nat.le_refl _
      | succ n ih =>
        rw [List.range_succ, List.flatMap_append, List.length_append]
        have h1 : ([n].flatMap (furF ns g p)).length ≤ 11 := by
          rw [List.flatMap_cons, List.flatMap_nil, List.append_nil]
          have := furF_len (ns := ns) (g := g) (p := p) (k := n)
          omega
        omega
    have htel : te.length ≤ 110 := by
      have h1 := congrArg List.length hte
      rw [List.length_map] at h1
      have := hsum i
      omega
    have etr : (List.range (i + 1)).flatMap (furF ns g p) = (List.range i).flatMap (furF ns g p) ++ furF ns g p i := by
      rw [List.range_succ, List.flatMap_append, List.flatMap_cons, List.flatMap_nil, List.append_nil]
    dsimp only
    rw [Int.zero_add]
    walk_at "rd"
    have hpi : (vP p)[i]? = some (ov p[i]) := by unfold vP; rw [List.getElem?_map, List.getElem?_eq_getElem hi]; rfl
    have hgi : (vP g)[i]? = some (ov (g[i]'(by omega))) := by unfold vP; rw [List.getElem?_map, List.getElem?_eq_getElem (by omega)]; rfl
    have ta : ∀ {G : Hp} {L T : List (Addr × HO)}, At [] H G L T → SqT K G a (vP p) := fun {G L T} A => .inl (.inl (A.base _ _ ha (by simp)))
    have tc : ∀ {G : Hp} {L T : List (Addr × HO)}, At [] H G L T → SqT K G c (vP g) := fun {G L T} A => .inl (.inl (A.base _ _ hc (by simp)))
    have tb : ∀ {G : Hp} {L T : List (Addr × HO)}, At [] H G L T → SqL K G b (ns.map V.str) := fun {G L T} A => A.sq hb (by simp)
    refine rd_ixT (ta A2) (atI_nat hpi) ?_
    walk_at "rd"
    refine ⟨rfl, rd_bl ?_⟩
    have hpe : p[i]? = some p[i] := List.getElem?_eq_getElem hi
    cases hy : p[i] with
    | none =>
      rw [hy] at hpe
      refine rd_iteN (fun h => absurd rfl h) (fun _ => ?_)
      walk_at "rd"
      refine ⟨pf, te, _, _, rfl, ?_, A2⟩
      rw [etr, hte]
      unfold furF
      rw [if_pos hpe, List.append_nil]
    | some y =>
      rw [hy] at hpe
      refine rd_iteN (fun _ => ?_) (fun h => by cases h)
      walk_at "rd"
      refine ⟨b, rfl, ⟨_, tb A2⟩, fun D hD => ?_⟩
      refine lc_it (walk_list (xs := ns.map V.str)) (fun j H' => At [] H H' [(pf, .lst (te.map fun x : Addr × Pl => V.ref x.1)), (D, .lst (((ns.take j).filter fun z => !decide (some z ∈ p)).map V.str))] (te.map tQ)) (A2.snoc hD _) (fun j H' _ A => tb A) ?_ ?_
      · rintro j x H7 H7' hj A7 ⟨rfl, hx⟩
        obtain ⟨z, hz, rfl⟩ : ∃ z, ns[j]? = some z ∧ x = .str z := by
          rw [List.getElem?_map] at hx
          obtain ⟨y, hy, e⟩ := Option.map_eq_some_iff.mp hx
          exact ⟨y, hy, e.symm⟩
        have ets : ns.take (j + 1) = ns.take j ++ [z] := by rw [List.take_add_one, hz]; rfl
        refine ⟨rfl, ?_⟩
        walk_at "rd"
        refine ⟨a, _, rfl, .inr (ta A7), rfl, flat_opts _, rd_bl ?_⟩
        show if (!inV (.str z) (p.map ov)) = true then _ else _
        rw [inV_opts, ets, List.filter_append, List.map_append]
        refine rd_iteN (fun h => ?_) (fun h => ?_)
        · walk_at "rd"
          rw [List.filter_cons_of_pos (by rw [decide_eq_false h]; rfl), List.filter_nil]
          refine ⟨_, A7.get 1 rfl, ?_, A7.set 1 rfl _⟩
          rw [List.length_map]
          have := List.length_filter_le (fun z => !decide (some z ∈ p)) (ns.take j)
          rw [List.length_take] at this
          exact szn' (by omega)
        · rw [List.filter_cons_of_neg (by rw [decide_eq_true h]; decide), List.filter_nil, List.map_nil, List.append_nil]
          exact A7
      intro H7 A7
      rw [List.length_map, List.take_length] at A7
      walk_at "rd"
      refine rd_cut (fun σ' H' => ∃ pr : Addr, σ' = [some (.ref a), some (.ref b), some (.ref c), some (.ref pf), some (.int (i : Nat)), some (.ref pr), none] ∧ At [] H H' [(pf, .lst (te.map fun x : Addr × Pl => V.ref x.1)), (pr, .lst ((freeL ns g p i).map ov))] (te.map tQ)) ?_ ?_
      · walk_at "rd"
        refine rd_ixT (tc A7) (atI_nat hgi) ?_
        walk_at "rd"
        refine ⟨rfl, rd_bl ?_⟩
        have hge : g[i]? = some (g[i]'(by omega)) := List.getElem?_eq_getElem (by omega)
        cases hg : (g[i]'(by omega)) with
        | none =>
          rw [hg] at hge
          refine rd_ite (fun _ => ?_) (fun h => absurd rfl h)
          walk_at "rd"
          refine ⟨szl, fun p1 hp1 => A7.u2 hp1 fun H8 A8 => ?_⟩
          refine ⟨D, p1, _, _, rfl, rfl, A8.get 1 rfl, A8.get 2 rfl, ?_, fun p2 hp2 => ?_⟩
          · have := List.length_filter_le (fun z => !decide (some z ∈ p)) ns
            exact szn (by simp only [List.length_map, List.length_cons, List.length_nil]; omega)
          have A9 := A8.snoc hp2 (.lst ((ns.filter fun z => !decide (some z ∈ p)).map V.str ++ [.non]))
          have A9 := A9.sel (L' := [(pf, .lst (te.map fun x : Addr × Pl => V.ref x.1)), (p2, .lst ((ns.filter fun z => !decide (some z ∈ p)).map V.str ++ [.non]))]) (by simp) (by walk_at "sub")
          refine ⟨p2, rfl, ?_⟩
          have e : (freeL ns g p i).map ov = (ns.filter fun z => !decide (some z ∈ p)).map V.str ++ [.non] := by
            unfold freeL
            rw [if_pos hge, List.map_append, List.map_map]; rfl
          rw [e]
          exact A9
        | some v =>
          rw [hg] at hge
          refine rd_ite (fun h => by cases h) (fun _ => ?_)
          walk_at "rd"
          refine ⟨D, rfl, ?_⟩
          have e : (freeL ns g p i).map ov = (ns.filter fun z => !decide (some z ∈ p)).map V.str := by
            unfold freeL
            rw [if_neg (by rw [hge]; simp), List.append_nil, List.map_map]; rfl
          rw [e]
          exact A7
      clear A7 A2
      rintro σ' H8 ⟨pr, rfl, A8⟩
      walk_at "rd"
      have hfl := freeL_len (ns := ns) (g := g) (p := p) (k := i)
      refine ⟨pr, rfl, ⟨_, A8.lst 1 rfl⟩, fun D2 hD2 => ?_⟩
      refine lc_it (walk_list (xs := (freeL ns g p i).map ov)) (fun j H' => ∃ te2 : List (Addr × Pl), te2.map (·.2) = ((freeL ns g p i).take j).map (fun x => p.take i ++ [x] ++ p.drop (i + 1)) ∧
        At [] H H' [(pf, .lst (te.map fun x : Addr × Pl => V.ref x.1)), (pr, .lst ((freeL ns g p i).map ov)), (D2, .lst (te2.map fun x : Addr × Pl => V.ref x.1))] (te.map tQ ++ te2.map tQ)) ⟨[], rfl, by rw [show List.map tQ ([] : List (Addr × Pl)) = [] from rfl, List.append_nil]; exact A8.snoc hD2 _⟩ (fun j H' _ ⟨_, _, A⟩ => A.lst 1 rfl) ?_ ?_
      · rintro j x H9 H9' hj ⟨te2, hte2, A9⟩ ⟨rfl, hx⟩
        obtain ⟨o, ho, rfl⟩ : ∃ o, (freeL ns g p i)[j]? = some o ∧ x = ov o := by
          rw [List.getElem?_map] at hx
          obtain ⟨y, hy, e⟩ := Option.map_eq_some_iff.mp hx
          exact ⟨y, hy, e.symm⟩
        have ets : (freeL ns g p i).take (j + 1) = (freeL ns g p i).take j ++ [o] := by rw [List.take_add_one, ho]; rfl
        have hjl := (List.getElem?_eq_some_iff.mp ho).1
        refine ⟨rfl, rd_yes (rd_T ?_)⟩
        walk_at "rd"
        refine ⟨a, _, rfl, ta A9, fun hw => ?_, fun _ p1 hp1 => A9.t2 hp1 fun H10 A10 => ?_⟩
        · have := hw.2
          rw [hvl, sIx_to (by omega)] at this
          omega
        walk_at "rd"
        refine ⟨szl rfl, fun p2 hp2 => ?_⟩
        have A11 := A10.snocT hp2 (.tup [ov o])
        revert A11
        generalize upd H10 p2 (.tup [ov o]) = H11
        intro A11
        have ecut1 : cutV (vP p) none (some (i : Int)) = vP (p.take i) := by
          rw [cut_to _ _ (by omega)]
          unfold vP
          rw [List.map_take]; rfl
        have ecut2 : cutV (vP p) (some ((i : Int) + 1)) none = vP (p.drop (i + 1)) := by
          have e1 : ((i : Int) + 1) = ((i + 1 : Nat) : Int) := by omega
          unfold cutV
          rw [e1, hvl, sIx_from (by omega), HT.sIx_none, List.take_of_length_le (by rw [List.length_drop, hvl]; exact Nat.le_refl _)]
          unfold vP
          rw [List.map_drop]
        rw [ecut1] at A11
        refine rd_catA A11 (xs := vP (p.take i)) (ys := [ov o]) (by simp) (by simp) (szn (by unfold vP; simp only [List.length_map, List.length_take, List.length_cons, List.length_nil]; omega)) fun p3 H12 T12 sub12 mem12 A12 => ?_
        walk_at "rd"
        refine ⟨a, _, rfl, ta A12, fun hw => ?_, fun _ p4 hp4 => A12.t2 hp4 fun H13 A13 => ?_⟩
        · have := hw.1
          rw [hvl, show ((i : Int) + 1) = ((i + 1 : Nat) : Int) by omega, sIx_from (by omega)] at this
          omega
        rw [ecut2] at A13
        refine rd_catA A13 (xs := vP (p.take i) ++ [ov o]) (ys := vP (p.drop (i + 1))) (List.mem_append_left _ mem12) (by simp) (szn (by unfold vP; simp only [List.length_map, List.length_append, List.length_take, List.length_drop, List.length_cons, List.length_nil]; omega)) fun p5 H14 T14 sub14 mem14 A14 => ?_
        have etup : vP (p.take i) ++ [ov o] ++ vP (p.drop (i + 1)) = vP (p.take i ++ [o] ++ p.drop (i + 1)) := by unfold vP; rw [List.map_append, List.map_append]; rfl
        rw [etup] at mem14
        refine ⟨_, A14.get 2 rfl, ?_, te2 ++ [(p5, p.take i ++ [o] ++ p.drop (i + 1))], ?_, ?_⟩
        · have h1 := congrArg List.length hte2
          rw [List.length_map, List.length_map, List.length_take] at h1
          rw [List.length_map]
          exact szn' (by omega)
        · rw [List.map_append, hte2, ets, List.map_append]; rfl
        · have A15 := A14.set 2 rfl (.lst ((te2.map fun x : Addr × Pl => V.ref x.1) ++ [.ref p5]))
          rw [List.map_append]
          refine A15.selT _ fun e he => ?_
          rw [List.map_append, ← List.append_assoc] at he
          rcases List.mem_append.mp he with he | he
          · exact sub14 _ (List.mem_append_left _ (sub12 _ (List.mem_append_left _ (List.mem_append_left _ he))))
          · rw [List.map_singleton, List.mem_singleton] at he
            rw [he]; exact mem14
      · rintro H9 ⟨te2, hte2, A9⟩
        rw [List.length_map, List.take_length] at hte2
        have htl2 : te2.length ≤ 11 := by
          have h1 := congrArg List.length hte2
          rw [List.length_map, List.length_map] at h1
          omega
        refine ⟨pf, D2, _, _, rfl, rfl, A9.get 0 rfl, A9.get 2 rfl, szn (by simp only [List.length_map]; omega), fun p6 hp6 => ?_⟩
        have A10 := A9.snoc hp6 (.lst ((te.map fun x : Addr × Pl => V.ref x.1) ++ te2.map fun x : Addr × Pl => V.ref x.1))
        have A10 := A10.sel (L' := [(p6, .lst ((te.map fun x : Addr × Pl => V.ref x.1) ++ te2.map fun x : Addr × Pl => V.ref x.1))]) (by simp) (by walk_at "sub")
        refine ⟨p6, te ++ te2, _, _, rfl, ?_, ?_⟩
        · rw [List.map_append, etr, hte, hte2]
          unfold furF
          rw [if_neg (by rw [hpe]; simp)]
        · rw [List.map_append, List.map_append]
          exact A10
  · rintro σ H2 ⟨pf, te, y4, y5, rfl, hte, A2⟩
    walk_at "rd"
    exact q H2 pf te hte (A2.new0 0 rfl (by simp)) (A2.get 0 rfl) (fun x hx => ⟨A2.tn x hx, A2.tm x hx⟩) A2.keep
end
end Nn

namespace Nn
open PySem PySem.Spec PyProof.Rows L2
local macro_rules | `(tactic| walk_at "rd1") => `(tactic| first
  | with_reducible refine' rd_c ?_
  | ((with_reducible refine' rd_var ?h ?_); (case h => rfl))
  | with_reducible refine' rd_op ?_
  | with_reducible refine' rd_I0 ?_
  | with_reducible refine' rd_seq ?_
  | ((with_reducible refine' rd_mod ?h ?_); (case h => decide))
  | ((with_reducible refine' rd_fdiv ?h ?_); (case h => exact ⟨by decide, by decide⟩))
  | ((with_reducible refine' rd_pow ?h ?_); (case h => exact ⟨by decide, by decide, by decide⟩))
  | ((with_reducible refine' rd_mul ?h ?_); (case h => first | exact Or.inl (by decide) | exact Or.inr (by decide)))
  | with_reducible refine' rd_set ?_
  | with_reducible refine' rd_asg ?_
  | with_reducible refine' rd_cons ?_
  | with_reducible refine' rd_nil ?_
  | with_reducible refine' rd_call ?_
  | with_reducible refine' rd_cb ?_
  | with_reducible refine' rd_if ?_
  | with_reducible refine' rd_test ?_
  | with_reducible refine' rd_B ?_
  | with_reducible refine' rd_bl ?_
  | ((with_reducible refine' rd_eq ?h ?_); (case h => rfl))
  | ((with_reducible refine' rd_ne ?h ?_); (case h => rfl))
  | with_reducible refine' rd_not ?_
  | with_reducible refine' rd_and ?_
  | with_reducible refine' rd_or ?_
  | with_reducible refine' rd_notV ?_
  | with_reducible refine' rd_chain ?_
  | with_reducible refine' rd_ret ?_
  | with_reducible refine' rd_drop ?_
  | with_reducible refine' rd_next' ?_
  | with_reducible refine' rd_lst ?_
  | with_reducible refine' rd_tup ?_
  | with_reducible refine' rd_lc ?_
  | with_reducible refine' rd_rng1 ?_
  | with_reducible refine' rd_istr ?_
  | with_reducible refine' rd_ilst ?_
  | with_reducible refine' rd_ienum ?_
  | with_reducible refine' rd_bm0 ?_
  | with_reducible refine' rd_bm ?_
  | with_reducible refine' rd_m1 ?_
  | with_reducible refine' rd_sl ?_
  | with_reducible refine' rd_po0 ?_
  | with_reducible refine' rd_po1 ?_
  | with_reducible refine' rd_in ?_
  | with_reducible refine' rd_sub ?_
  | with_reducible refine' rd_ifE ?_
  | with_reducible refine' rd_un ?_
  | with_reducible refine' rd_U ?_
  | with_reducible refine' rd_brk ?_
  | with_reducible refine' rd_cont ?_
  | with_reducible refine' rd_yes ?_
  | with_reducible refine' rd_T ?_
  | with_reducible refine' rd_F ?_
  | with_reducible refine' rd_nT ?_
  | with_reducible refine' rd_nF ?_
  | with_reducible refine' rd_dni ?_
  | with_reducible refine' rd_di ?_
  | with_reducible refine' rd_dget ?_
  | with_reducible refine' rd_dget1 ?_
  | with_reducible refine' rd_dget2 ?_
  | with_reducible refine' rd_dget2N ?_
  | with_reducible refine' rd_dpop1 ?_
  | with_reducible refine' rd_ddel ?_
  | with_reducible refine' rd_mkN ?_
  | with_reducible refine' rd_mkV ?_
  | with_reducible refine' rd_dput ?_
  | with_reducible refine' rd_dnew ?_
  | with_reducible refine' rd_ikeys ?_
  | with_reducible refine' rd_gn ?_
  | with_reducible refine' rd_for ?_
  | with_reducible refine' rd_make ?_
  | with_reducible refine' rd_meth ?_
  | with_reducible refine' rd_fld ?_
  | with_reducible refine' rd_sfld ?_
  | with_reducible refine' rd_dc ?_
  | with_reducible refine' rd_items ?_
  | with_reducible refine' rd_sadd ?_
  | with_reducible refine' rd_ivals ?_
  | with_reducible refine' rd_callS ?_
  | with_reducible refine' rd_makeS ?_
  | with_reducible refine' rd_methS ?_
  | with_reducible refine' rd_fldH ?_
  | with_reducible refine' rd_mkO ?_)
local macro_rules | `(tactic| walk_at "sub") => `(tactic| repeat' (first | exact List.nil_sublist _ | exact List.Sublist.refl _ | apply List.Sublist.cons₂ | apply List.Sublist.cons))
local macro_rules | `(tactic| walk_at "rd") => `(tactic| repeat walk_at "rd1")

section
variable {P : Program} {w : World} {K : PySem.W.Frag} {mg : Str → Option Value} {base : Heap}
/-! ### _law_fewest -/
abbrev SRow := Pl × Addr × Nat
def dR (rs : List SRow) : List DRow := rs.map fun r => (r.1, r.2.1, (r.2.2 : Int))
def sR (rs : List SRow) : List (Pl × Nat) := rs.map fun r => (r.1, r.2.2)
def wR (rs : List SRow) : List V := rs.map fun r => V.ref r.2.1
theorem dR_keys (rs : List SRow) : (dR rs).map (·.1) = rs.map (·.1) := by unfold dR; rw [List.map_map]; rfl
theorem sR_keys (rs : List SRow) : (sR rs).map (·.1) = rs.map (·.1) := by unfold sR; rw [List.map_map]; rfl
theorem tQ_ne {H : Hp} {p : Addr} {xs : List V} {te : List (Addr × Pl)} (hp : H p = some (.lst xs)) (h : ∀ x ∈ te.map tQ, H x.1 = some x.2) : ∀ x ∈ te.map tQ, x.1 ≠ p := by
  intro x hx e
  have h1 := h x hx
  obtain ⟨y, hy, rfl⟩ := List.mem_map.mp hx
  rw [e, hp] at h1
  cases h1
theorem srch_len {ns : List Str} {g p0 : Pl} {n pos : Nat} {rs : List SRow} (hb : p0 ∈ allP ns n) (s : Srch (furtherF ns g) p0 (sR rs) pos) : rs.length ≤ (ns.length + 1) ^ n := by
  have h1 := List.Nodup.length_le_of_subset s.nd (l₂ := allP ns n) fun x hx => by
    obtain ⟨e, he, rfl⟩ := List.mem_map.mp hx
    exact way_allP hb (s.path e he)
  rw [allP_len, sR_keys, List.length_map] at h1
  exact h1
structure CFew (P : Program) (w : World) (K : PySem.W.Frag) (mg : Str → Option Value) (base : Heap) : Prop where
  _law_further : Cl P w K mg base 1 "_law_further" (spFurther K)
def spFewest (K : PySem.W.Frag) : Sp := fun vs H Q _ => ∃ (a c b : Addr) (p0 g : Pl) (ns : List Str) (n : Nat), vs = [.ref a, .ref c, .ref b] ∧ H a = some (.tup (vP p0)) ∧ H c = some (.tup (vP g)) ∧ SqL K H b (ns.map V.str) ∧ p0 ∈ allP ns n ∧ g.length = n ∧ n ≤ 10 ∧ ns.length ≤ 10 ∧ (ns.length + 1) ^ n ≤ 5000 ∧
  (∃ m, Way (furtherF ns g) p0 g m) ∧ ∀ l H', Way (furtherF ns g) p0 g l → (∀ m, Way (furtherF ns g) p0 g m → l ≤ m) → Kp [] H H' → Q (.int (l : Nat)) H'
theorem ok__law_fewest {f : Addr} {fd : FuncData} (F : Fun K "_law_fewest" "_law_fewest" s_law_fewest f fd) (B : Blt mg) (C : CFew P w K mg base) : FnOk P w K mg base CX0 2 f fd P_law_fewest (spFewest K) := by
  refine F.ok sc_law_fewest (fun vs H Q E h => by obtain ⟨a, c, b, p0, g, ns, n, rfl, _⟩ := h; rfl) (fun cdv A outer s0 H vs Q E hr h => ?_)
  obtain ⟨a, c, b, p0, g, ns, n, rfl, ha, hc, hb, hp0, hgl, hn10, hns, hbig, ⟨m0, way0⟩, q⟩ := h
  refine ⟨_, pss_cons (ps_set (i := 3) sc_law_fewest.nd rfl (Or.inl rfl) (pe_dispN (hu_of hr) (pv 0) pe_int))
  (pss_cons (ps_set (i := 4) sc_law_fewest.nd rfl (Or.inl rfl) (pe_lst (pa_cons (pv 0) pa_nil)))
  (pss_cons (ps_set (i := 5) sc_law_fewest.nd rfl (Or.inl rfl) pe_int)
  (pss_cons (ps_while PassesOwn.never (pt_cmpR (or_notInN (hu_of hr)) (pv 1) (pv 3) (by rfl)) (pss_cons (ps_set (i := 6) sc_law_fewest.nd rfl (Or.inl rfl) (pe_ix ix_list (pv 4) (pv 5) (fun _ _ => rfl)))
  (pss_cons (ps_aug (i := 5) sc_law_fewest.nd rfl (Or.inl rfl) pe_int ip_add)
  (pss_one (ps_for PassesOwn.never rfl (pi_list (pe_cl C._law_further hr (by omega) (by rfl) (pa_cons (pv 6) (pa_cons (pv 2) (pa_cons (pv 1) pa_nil))))) (pg_name (i := 7) sc_law_fewest.nd rfl (Or.inl rfl))
   (pss_one (ps_if (pt_cmpR (or_notInN (hu_of hr)) (pv 7) (pv 3) (by rfl)) (pss_cons (ps_asg (pe_op op_add (pe_ix (ix_dN (hu_of hr)) (pv 3) (pv 6) (fun _ _ => rfl)) pe_int) (pg_sub (pv 3) (pv 7) (set_dN (hu_of hr))))
  (pss_one (ps_expr (pe_bm PySem.F.plainAttrs_list PySem.F.slot_list_append PySem.F.type_list_append mt_append (pv 4) (pa_cons (pv 7) pa_nil)))))
   (pss_nil))))))))
  (pss_one (ps_ret (pe_ix (ix_dN (hu_of hr)) (pv 3) (pv 1) (fun _ _ => rfl))))))), ?_⟩
  have A := At.nil H
  have nea : ∀ {p : Addr}, H p = none → a ≠ p := fun {p} hp e => by rw [← e, ha] at hp; cases hp
  dsimp only [cxOf, Cx.nox]
  walk_at "rd"
  refine rd_dispN fun md hmd => ?_
  walk_at "rd"
  refine ⟨p0, a, 0, rfl, rfl, by rw [upd_ne (nea hmd)]; exact ha, upd_same, ?_⟩
  have A1 := A.snoc hmd (DictN P w md [(p0, a, 0)])
  rw [upd_upd]
  revert A1
  generalize upd H md (DictN P w md [(p0, a, 0)]) = H1
  intro A1
  walk_at "rd"
  refine ⟨szl, fun wl hwl => A1.u2 hwl fun H2 A2 => ?_⟩
  walk_at "rd"
  have hTx : ∀ {G : Hp} {L T : List (Addr × HO)} {rs : List SRow}, At [] H G L T → (∀ r ∈ rs, (r.2.1, HO.tup (vP r.1)) ∈ T ∨ H r.2.1 = some (.tup (vP r.1))) → ∀ r ∈ dR rs, G r.2.1 = some (.tup (vP r.1)) := fun {G L T rs} A h r hr => by
    obtain ⟨x, hx, rfl⟩ := List.mem_map.mp hr
    rcases h x hx with h | h
    · exact A.tm _ h
    · exact A.base _ _ h (by simp)
  refine rd_while (fun m σ H' => ∃ (rs : List SRow) (pos : Nat) (y6 y7 : Option V) (T : List (Addr × HO)), σ = [some (.ref a), some (.ref c), some (.ref b), some (.ref md), some (.ref wl), some (.int (pos : Nat)), y6, y7] ∧ Srch (furtherF ns g) p0 (sR rs) pos ∧ pos ≤ rs.length ∧ m + pos = 5001 ∧
      (∀ r ∈ rs, r.1 = g → (pos = 0 ∧ r.2.2 = 0) ∨ ∃ u, 0 < pos ∧ (sR rs)[pos - 1]? = some u ∧ r.2.2 = u.2 + 1) ∧ (∀ r ∈ rs, (r.2.1, HO.tup (vP r.1)) ∈ T ∨ H r.2.1 = some (.tup (vP r.1))) ∧
      At [] H H' [(md, DictN P w md (dR rs)), (wl, .lst (wR rs))] T) 5001
    ⟨[(p0, a, 0)], 0, none, none, [], rfl, Srch.init, Nat.zero_le _, rfl, fun r hr _ => .inl ⟨rfl, by rw [List.mem_singleton] at hr; rw [hr]⟩, fun r hr => .inr (by rw [List.mem_singleton] at hr; rw [hr]; exact ha), A2⟩ ?_
  clear A2 A1
  rintro m σ H3 ⟨rs, pos, y6, y7, T, rfl, hs, hpos, hm, hgo, hT, A3⟩
  have hlen := srch_len hp0 hs
  walk_at "rd"
  refine ⟨g, c, md, dR rs, rfl, rfl, A3.base _ _ hc (by simp), A3.get 0 rfl, hTx A3 hT, rd_bl ?_⟩
  rw [dR_keys]
  refine rd_iteN (fun hno => ?_) (fun hin => ?_)
  · have hlt : pos < rs.length := Classical.byContradiction fun h => hno (by
      have := hs.all (by unfold sR; rw [List.length_map]; omega) way0
      rw [sR_keys] at this
      exact this)
    obtain ⟨ph, ah, lh, hat⟩ : ∃ ph ah lh, rs[pos]? = some (ph, ah, lh) := ⟨_, _, _, List.getElem?_eq_getElem hlt⟩
    have hatS : (sR rs)[pos]? = some (ph, lh) := by unfold sR; rw [List.getElem?_map, hat]; rfl
    have hatW : (wR rs)[pos]? = some (.ref ah) := by unfold wR; rw [List.getElem?_map, hat]; rfl
    have hah : ∀ {G : Hp} {L : List (Addr × HO)} {N : List (Addr × HO)}, At [] H G L (T ++ N) → G ah = some (.tup (vP ph)) := fun {G L N} A => by
      rcases hT _ (List.mem_of_getElem? hat) with h | h
      · exact A.tm _ (List.mem_append_left _ h)
      · exact A.base _ _ h (by simp)
    have hph : ph ∈ allP ns n := way_allP hp0 (hs.path _ (List.mem_of_getElem? hatS))
    obtain ⟨hpl, _⟩ := mem_allP.mp hph
    refine ⟨_, fun _ _ h => h, ?_⟩
    walk_at "rd"
    refine rd_ixL (A3.lst 1 rfl) (atI_nat hatW) ?_
    walk_at "rd"
    refine rd_aug rfl ?_
    walk_at "rd"
    refine ⟨_, _, rfl, rfl, ?_⟩
    walk_at "rd"
    have A3' : At [] H H3 [(md, DictN P w md (dR rs)), (wl, .lst (wR rs))] (T ++ []) := by rw [List.append_nil]; exact A3
    refine ⟨ah, b, c, ph, g, ns, rfl, hah A3', A3.sq hb (by simp), A3.base _ _ hc (by simp), by omega, by omega, hns, fun H4 pr te hte hpr hpr' hN k4 => ?_⟩
    have A4 := A3.addB k4 hpr hpr' (te.map tQ) hN (tQ_ne hpr' fun x hx => (hN x hx).2)
    clear A3'
    refine ⟨pr, rfl, ⟨_, A4.lst 2 rfl⟩, ?_⟩
    refine forI (walk_list (xs := te.map fun x : Addr × Pl => V.ref x.1)) (fun i σ H' => ∃ (rs' : List SRow) (y7 : Option V), σ = [some (.ref a), some (.ref c), some (.ref b), some (.ref md), some (.ref wl), some (.int ((pos : Int) + 1)), some (.ref ah), y7] ∧ Srch2 (furtherF ns g) p0 (sR rs') pos (ph, lh) ((furtherF ns g ph).take i) ∧
        rs'[pos]? = some (ph, ah, lh) ∧ (∀ r ∈ rs', r.1 = g → r.2.2 = lh + 1) ∧ (∀ r ∈ rs', (r.2.1, HO.tup (vP r.1)) ∈ T ++ te.map tQ ∨ H r.2.1 = some (.tup (vP r.1))) ∧
        At [] H H' [(md, DictN P w md (dR rs')), (wl, .lst (wR rs')), (pr, .lst (te.map fun x : Addr × Pl => V.ref x.1))] (T ++ te.map tQ))
      ⟨rs, _, rfl, hs.go hatS, hat, fun r hr e => absurd (List.mem_map.mpr ⟨r, hr, e⟩) hno, fun r hr => (hT r hr).imp_left (List.mem_append_left _), A4⟩ (fun i σ H' _ ⟨_, _, _, _, _, _, _, A⟩ => A.lst 2 rfl) ?_ ?_
    · rintro i x σ H5 H5' hi ⟨rs', y7', rfl, hs5, hat5, hgo5, hT5, A5⟩ ⟨rfl, hx⟩
      have hi' : i < te.length := by rw [List.length_map] at hi; exact hi
      have ex : x = .ref te[i].1 := by
        rw [List.getElem?_map, List.getElem?_eq_getElem hi'] at hx
        exact (Option.some.inj hx).symm
      subst ex
      have hfi : (furtherF ns g ph)[i]? = some te[i].2 := by rw [← hte, List.getElem?_map, List.getElem?_eq_getElem hi']; rfl
      have etk : (furtherF ns g ph).take (i + 1) = (furtherF ns g ph).take i ++ [te[i].2] := by rw [List.take_add_one, hfi]; rfl
      have hmT : (te[i].1, HO.tup (vP te[i].2)) ∈ T ++ te.map tQ := List.mem_append_right _ (List.mem_map_of_mem (f := tQ) (List.getElem_mem hi'))
      have hlen5 := srch_len hp0 hs5.s
      generalize hti : te[i] = ti at *
      obtain ⟨at_, pt⟩ := ti
      walk_at "rd"
      refine ⟨pt, at_, md, dR rs', rfl, rfl, A5.tm _ hmT, A5.get 0 rfl, hTx A5 hT5, rd_bl ?_⟩
      rw [dR_keys]
      refine rd_iteN (fun hn => ?_) (fun hy => ?_)
      · walk_at "rd"
        have hrow : ((ph, ah, (lh : Int)) : DRow) ∈ dR rs' := List.mem_map.mpr ⟨_, List.mem_of_getElem? hat5, rfl⟩
        refine ⟨(ph, ah, (lh : Int)), ah, md, dR rs', rfl, rfl, hah A5, A5.get 0 rfl, hTx A5 hT5, hrow, ?_, ?_⟩
        · rw [dR_keys, ← sR_keys]; exact hs5.s.nd
        walk_at "rd"
        refine ⟨pt, at_, md, dR rs', (lh : Int) + 1, rfl, rfl, rfl, A5.tm _ hmT, A5.get 0 rfl, hTx A5 hT5, by rw [dR_keys]; exact hn, ?_, ?_⟩
        · unfold dR; rw [List.length_map]; exact szn' (by omega)
        have A6 := A5.set 0 rfl (DictN P w md (dR rs' ++ [(pt, at_, (lh : Int) + 1)]))
        revert A6
        generalize upd H5' md (DictN P w md (dR rs' ++ [(pt, at_, (lh : Int) + 1)])) = H6
        intro A6
        walk_at "rd"
        refine ⟨.inl ⟨rfl, _, A6.lst 1 rfl⟩, ?_⟩
        walk_at "rd"
        refine ⟨wl, _, _, rfl, rfl, A6.get 1 rfl, by unfold wR; rw [List.length_map]; exact szn' (by omega), ?_⟩
        have A7 := A6.set 1 rfl (.lst (wR rs' ++ [.ref at_]))
        refine ⟨rs' ++ [(pt, at_, lh + 1)], _, rfl, ?_, ?_, ?_, ?_, ?_⟩
        · rw [etk]
          have := hs5.more (v := pt) (List.mem_of_getElem? hfi) (by rw [sR_keys]; exact hn)
          have e : sR (rs' ++ [(pt, at_, lh + 1)]) = sR rs' ++ [(pt, lh + 1)] := by unfold sR; rw [List.map_append]; rfl
          rw [e]
          exact this
        · rw [List.getElem?_append_left (List.getElem?_eq_some_iff.mp hat5).1]; exact hat5
        · intro r hr e
          rcases List.mem_append.mp hr with hr | hr
          · exact hgo5 r hr e
          · rw [List.mem_singleton] at hr; rw [hr]
        · intro r hr
          rcases List.mem_append.mp hr with hr | hr
          · exact hT5 r hr
          · rw [List.mem_singleton] at hr; rw [hr]; exact .inl hmT
        · have e : dR (rs' ++ [(pt, at_, lh + 1)]) = dR rs' ++ [(pt, at_, (lh : Int) + 1)] := by unfold dR; rw [List.map_append]; rfl
          have e2 : wR (rs' ++ [(pt, at_, lh + 1)]) = wR rs' ++ [.ref at_] := by unfold wR; rw [List.map_append]; rfl
          rw [e, e2]
          exact A7
      · walk_at "rd"
        refine ⟨rs', _, rfl, ?_, hat5, hgo5, hT5, A5⟩
        rw [etk]
        exact hs5.skip (by rw [sR_keys]; exact hy)
    · rintro σ H5 ⟨rs', y7', rfl, hs5, hat5, hgo5, hT5, A5⟩
      have hfl : (furtherF ns g ph).take (te.map fun x : Addr × Pl => V.ref x.1).length = furtherF ns g ph := List.take_of_length_le (by rw [← hte, List.length_map, List.length_map]; exact Nat.le_refl _)
      rw [hfl] at hs5
      refine ⟨5000 - pos, by omega, rs', pos + 1, _, _, T ++ te.map tQ, rfl, hs5.fin, ?_, by omega, ?_, hT5, A5.sel (by simp) (by walk_at "sub")⟩
      · have := (List.getElem?_eq_some_iff.mp hat5).1
        omega
      · intro r hr e
        exact .inr ⟨(ph, lh), by omega, by rw [Nat.add_sub_cancel]; exact hs5.here, hgo5 r hr e⟩
  · obtain ⟨r, hr, e⟩ := List.mem_map.mp hin
    have hrS : (r.1, r.2.2) ∈ sR rs := List.mem_map.mpr ⟨r, hr, rfl⟩
    walk_at "rd"
    refine ⟨(r.1, r.2.1, (r.2.2 : Int)), c, md, dR rs, rfl, rfl, ?_, A3.get 0 rfl, hTx A3 hT, List.mem_map.mpr ⟨r, hr, rfl⟩, ?_, ?_⟩
    · rw [e]; exact A3.base _ _ hc (by simp)
    · rw [dR_keys, ← sR_keys]; exact hs.nd
    · refine q r.2.2 H3 ?_ (fun m w => ?_) A3.keep
      · have h2 : Way (furtherF ns g) p0 r.1 r.2.2 := hs.path _ hrS
        rw [e] at h2
        exact h2
      · refine hs.least (e := (r.1, r.2.2)) hrS ?_ (by rw [e]; exact w)
        exact hgo r hr e
end
end Nn

namespace Nn
open PySem PySem.Spec PyProof.Rows L2
local macro_rules | `(tactic| walk_at "rd1") => `(tactic| first
  | with_reducible refine' rd_c ?_
  | ((with_reducible refine' rd_var ?h ?_); (case h => rfl))
  | with_reducible refine' rd_op ?_
  | with_reducible refine' rd_I0 ?_
  | with_reducible refine' rd_seq ?_
  | ((with_reducible refine' rd_mod ?h ?_); (case h => decide))
  | ((with_reducible refine' rd_fdiv ?h ?_); (case h => exact ⟨by decide, by decide⟩))
  | ((with_reducible refine' rd_pow ?h ?_); (case h => exact ⟨by decide, by decide, by decide⟩))
  | ((with_reducible refine' rd_mul ?h ?_); (case h => first | exact Or.inl (by decide) | exact Or.inr (by decide)))
  | with_reducible refine' rd_set ?_
  | with_reducible refine' rd_asg ?_
  | with_reducible refine' rd_cons ?_
  | with_reducible refine' rd_nil ?_
  | with_reducible refine' rd_call ?_
  | with_reducible refine' rd_cb ?_
  | with_reducible refine' rd_if ?_
  | with_reducible refine' rd_test ?_
  | with_reducible refine' rd_B ?_
  | with_reducible refine' rd_bl ?_
  | ((with_reducible refine' rd_eq ?h ?_); (case h => rfl))
  | ((with_reducible refine' rd_ne ?h ?_); (case h => rfl))
  | with_reducible refine' rd_not ?_
  | with_reducible refine' rd_and ?_
  | with_reducible refine' rd_or ?_
  | with_reducible refine' rd_notV ?_
  | with_reducible refine' rd_chain ?_
  | with_reducible refine' rd_ret ?_
  | with_reducible refine' rd_drop ?_
  | with_reducible refine' rd_next' ?_
  | with_reducible refine' rd_lst ?_
  | with_reducible refine' rd_tup ?_
  | with_reducible refine' rd_lc ?_
  | with_reducible refine' rd_rng1 ?_
  | with_reducible refine' rd_istr ?_
  | with_reducible refine' rd_ilst ?_
  | with_reducible refine' rd_ienum ?_
  | with_reducible refine' rd_bm0 ?_
  | with_reducible refine' rd_bm ?_
  | with_reducible refine' rd_m1 ?_
  | with_reducible refine' rd_sl ?_
  | with_reducible refine' rd_po0 ?_
  | with_reducible refine' rd_po1 ?_
  | with_reducible refine' rd_in ?_
  | with_reducible refine' rd_sub ?_
  | with_reducible refine' rd_ifE ?_
  | with_reducible refine' rd_un ?_
  | with_reducible refine' rd_U ?_
  | with_reducible refine' rd_brk ?_
  | with_reducible refine' rd_cont ?_
  | with_reducible refine' rd_yes ?_
  | with_reducible refine' rd_T ?_
  | with_reducible refine' rd_F ?_
  | with_reducible refine' rd_nT ?_
  | with_reducible refine' rd_nF ?_
  | with_reducible refine' rd_dni ?_
  | with_reducible refine' rd_di ?_
  | with_reducible refine' rd_dget ?_
  | with_reducible refine' rd_dget1 ?_
  | with_reducible refine' rd_dget2 ?_
  | with_reducible refine' rd_dget2N ?_
  | with_reducible refine' rd_dpop1 ?_
  | with_reducible refine' rd_ddel ?_
  | with_reducible refine' rd_mkN ?_
  | with_reducible refine' rd_mkV ?_
  | with_reducible refine' rd_dput ?_
  | with_reducible refine' rd_dnew ?_
  | with_reducible refine' rd_ikeys ?_
  | with_reducible refine' rd_gn ?_
  | with_reducible refine' rd_for ?_
  | with_reducible refine' rd_make ?_
  | with_reducible refine' rd_meth ?_
  | with_reducible refine' rd_fld ?_
  | with_reducible refine' rd_sfld ?_
  | with_reducible refine' rd_dc ?_
  | with_reducible refine' rd_items ?_
  | with_reducible refine' rd_sadd ?_
  | with_reducible refine' rd_ivals ?_
  | with_reducible refine' rd_callS ?_
  | with_reducible refine' rd_makeS ?_
  | with_reducible refine' rd_methS ?_
  | with_reducible refine' rd_fldH ?_
  | with_reducible refine' rd_mkO ?_)
local macro_rules | `(tactic| walk_at "sub") => `(tactic| repeat' (first | exact List.nil_sublist _ | exact List.Sublist.refl _ | apply List.Sublist.cons₂ | apply List.Sublist.cons))
local macro_rules | `(tactic| walk_at "rd") => `(tactic| repeat walk_at "rd1")

section
variable {P : Program} {w : World} {K : PySem.W.Frag} {mg : Str → Option Value} {base : Heap}
/-! ### _law_small_pairs -/
def nm5 : List Str := ["a", "b", "c", "d", "e"]
def nm7 : List Str := ["a", "b", "c", "d", "e", "f", "g"]
theorem nm7_ok : ∀ z ∈ nm7, nameOk z = true := by decide +kernel
theorem nm7_nd : nm7.Nodup := by decide +kernel
theorem nm5_sub : ∀ z ∈ nm5, z ∈ nm7 := by decide +kernel
theorem g_no5 : ("g" : Str) ∉ nm5 := by decide +kernel
structure SmallP (nm : List Str) (prs : List (Str × Option Str)) : Prop where
  olds : (prs.map (·.1)).Sublist nm
  newsNd : (prs.filterMap (·.2)).Nodup
  news : ∀ z ∈ prs.filterMap (·.2), z ∈ prs.map (·.1) ∨ (z ∈ nm5 ∧ z ∉ nm)
structure CSmall (P : Program) (w : World) (K : PySem.W.Frag) (mg : Str → Option Value) (base : Heap) : Prop where
  _law_next : Cl P w K mg base 1 "_law_next" spNext
  _law_turned : Cl P w K mg base 2 "_law_turned" (spTurned K)
def spSmall (K : PySem.W.Frag) : Sp := fun vs H Q _ => ∃ (S a : Addr) (s : Int) (nm : List Str), vs = [.ref S, .ref a] ∧ H S = some (.lst [.int s]) ∧ Sd s ∧ SqL K H a (nm.map V.str) ∧ nm.Nodup ∧ (∀ z ∈ nm, z ∈ nm7) ∧
  ∀ s' pr (te : List (Addr × (Str × Option Str))) H', Sd s' → SmallP nm (te.map (·.2)) → H pr = none → H' pr = some (.lst (te.map fun x => V.ref x.1)) → (∀ x ∈ te.map tP, H x.1 = none ∧ H' x.1 = some x.2) → Kp [S] H H' → H' S = some (.lst [.int s']) → Q (.ref pr) H'
theorem ok__law_small_pairs {f : Addr} {fd : FuncData} (F : Fun K "_law_small_pairs" "_law_small_pairs" s_law_small_pairs f fd) (B : Blt mg) (C : CSmall P w K mg base) : FnOk P w K mg base CX0 3 f fd P_law_small_pairs (spSmall K) := by
  refine F.ok sc_law_small_pairs (fun vs H Q E h => by obtain ⟨S, a, s, nm, rfl, _⟩ := h; rfl) (fun cdv A outer s0 H vs Q E hr h => ?_)
  obtain ⟨S, a, s, nm, rfl, hS, hs, hZ, hnd, hsub, q⟩ := h
  have hnl : nm.length ≤ 7 := by
    have := List.Nodup.length_le_of_subset hnd (l₂ := nm7) hsub
    exact this
  refine ⟨_, pss_cons (ps_set (i := 2) sc_law_small_pairs.nd rfl (Or.inl rfl) (pe_lst (pa_cons pe_str (pa_cons pe_str (pa_cons pe_str (pa_cons pe_str (pa_cons pe_str pa_nil)))))))
  (pss_cons (ps_setLc (i := 3) (own := [("_law_name", 5)]) rfl sc_law_small_pairs.nd rfl rfl (sw_true rfl rfl rfl (by decide +kernel)) (pi_list (pv 1)) (blkOk_by (N := N_law_small_pairs) (sc := defScope s_law_small_pairs) (by decide +kernel)) (fun _ _ _ _ _ => (pg_name (i := 5) sc_law_small_pairs.nd rfl (Or.inl rfl))) (fun _ _ _ _ _ => pts_one (pt_cmpR op_gt (pe_cl C._law_next hr (by omega) (by rfl) (pa_cons (pv 0) (pa_cons pe_int pa_nil))) pe_int (nomark _))) (fun _ _ _ _ _ => (pv 5)))
  (pss_cons (ps_set (i := 4) sc_law_small_pairs.nd rfl (Or.inr rfl) (pe_cl C._law_turned hr (by omega) (by rfl) (pa_cons (pv 0) (pa_cons (pe_op op_cat (pv 3) (pe_lc (own := [("_law_name", 5)]) rfl sc_law_small_pairs.nd (pi_list (pv 2)) (blkOk_by (N := N_law_small_pairs) (sc := defScope s_law_small_pairs) (by decide +kernel)) (fun _ _ _ _ _ => (pg_name (i := 5) sc_law_small_pairs.nd rfl (Or.inl rfl))) (fun _ _ _ _ _ => pts_one (pt_cmpR (op_notIn_seq' (K := K) rfl) (pv 5) (pv 1) (by rfl))) (fun _ _ _ _ _ => (pv 5)))) pa_nil))))
  (pss_one (ps_ret (pe_lc (own := [("_law_old", 6)]) rfl sc_law_small_pairs.nd (pi_list (pv 3)) (blkOk_by (N := N_law_small_pairs) (sc := defScope s_law_small_pairs) (by decide +kernel)) (fun _ _ _ _ _ => (pg_name (i := 6) sc_law_small_pairs.nd rfl (Or.inl rfl))) (fun _ _ _ _ _ => pts_nil) (fun _ _ _ _ _ => (pe_tup (pa_cons (pv 6) (pa_cons (pe_ix (ix_list' (K := K) rfl) (pe_lst (pa_cons (pe_bm0' (K := K) rfl PySem.F.plainAttrs_list PySem.F.slot_list_pop PySem.F.type_list_pop mt_pop (pv 4)) (pa_cons pe_non pa_nil))) (pe_callTy call_int1 (by rfl) B.int (by decide +kernel) (pa_cons (pe_cmpR op_eq (pe_cl C._law_next hr (by omega) (by rfl) (pa_cons (pv 0) (pa_cons pe_int pa_nil))) pe_int (nomark _)) pa_nil)) (fun _ _ => rfl)) pa_nil))))))))), ?_⟩
  dsimp only [cxOf, Cx.nox]
  have A := At.one hS
  have ta : ∀ {G : Hp}, Kp [S] H G → SqL K G a (nm.map V.str) := fun k => k.strs hS hZ
  walk_at "rd"
  refine ⟨szl, fun pn hpn => A.u2 hpn fun H1 A1 => ?_⟩
  have A1 : At [S] H H1 [(S, .lst [.int s]), (pn, .lst (nm5.map V.str))] [] := A1
  walk_at "rd"
  -- movers
  refine ⟨a, rfl, ⟨_, ta A1.keep⟩, fun D hD => ?_⟩
  refine lc_it (walk_list (xs := nm.map V.str)) (fun i H' => ∃ (s : Int) (mv : List Str), Sd s ∧ mv.Sublist (nm.take i) ∧ At [S] H H' [(S, .lst [.int s]), (pn, .lst (nm5.map V.str)), (D, .lst (mv.map V.str))] [])
    ⟨s, [], hs, List.nil_sublist _, A1.snoc hD _⟩ (fun i H' _ ⟨_, _, _, _, A5⟩ => ta A5.keep) ?_ ?_
  · rintro i x H5 H5' hi ⟨s, mv, hs, hmv, A5⟩ ⟨rfl, hx⟩
    obtain ⟨z, hz, rfl⟩ : ∃ z, nm[i]? = some z ∧ x = .str z := by
      rw [List.getElem?_map] at hx
      obtain ⟨y, hy, e⟩ := Option.map_eq_some_iff.mp hx
      exact ⟨y, hy, e.symm⟩
    have ets : nm.take (i + 1) = nm.take i ++ [z] := by rw [List.take_add_one, hz]; rfl
    refine ⟨rfl, ?_⟩
    walk_at "rd"
    refine rd_next A5 0 rfl hs (by decide) fun s' r H6 hs' h0 h1 A6 => ?_
    walk_at "rd"
    refine rd_ite (fun _ => ?_) (fun _ => ?_)
    · walk_at "rd"
      have A7 := A6.set 2 rfl (.lst (mv.map V.str ++ [.str z]))
      refine ⟨_, A6.get 2 rfl, by rw [List.length_map]; have := hmv.length_le; rw [List.length_take] at this; exact szn' (by omega), s', mv ++ [z], hs', ?_, ?_⟩
      · rw [ets]; exact hmv.append (List.Sublist.refl _)
      · rw [List.map_append]; exact A7
    · exact ⟨s', mv, hs', by rw [ets]; exact hmv.trans (List.sublist_append_left _ _), A6⟩
  rintro H5 ⟨s1, mv, hs1, hmv, A5⟩
  rw [List.length_map, List.take_length] at hmv
  have hml := hmv.length_le
  clear A1 A
  walk_at "rd"
  -- some
  refine ⟨pn, rfl, ⟨_, A5.lst 1 rfl⟩, fun D2 hD2 => ?_⟩
  refine lc_it (walk_list (xs := nm5.map V.str)) (fun j H' => At [S] H H' [(S, .lst [.int s1]), (pn, .lst (nm5.map V.str)), (D, .lst (mv.map V.str)), (D2, .lst (((nm5.take j).filter fun z => !decide (z ∈ nm)).map V.str))] []) (A5.snoc hD2 _) (fun j H' _ A => A.lst 1 rfl) ?_ ?_
  · rintro j x H7 H7' hj A7 ⟨rfl, hx⟩
    obtain ⟨z, hz, rfl⟩ : ∃ z, nm5[j]? = some z ∧ x = .str z := by
      rw [List.getElem?_map] at hx
      obtain ⟨y, hy, e⟩ := Option.map_eq_some_iff.mp hx
      exact ⟨y, hy, e.symm⟩
    have ets : nm5.take (j + 1) = nm5.take j ++ [z] := by rw [List.take_add_one, hz]; rfl
    refine ⟨rfl, ?_⟩
    walk_at "rd"
    refine ⟨a, _, rfl, .inl (ta A7.keep), rfl, flat_strs _, rd_bl ?_⟩
    show if (!inV (.str z) (nm.map V.str)) = true then _ else _
    rw [inV_strs, ets, List.filter_append, List.map_append]
    refine rd_iteN (fun h => ?_) (fun h => ?_)
    · walk_at "rd"
      rw [List.filter_cons_of_pos (by rw [decide_eq_false h]; rfl), List.filter_nil]
      refine ⟨_, A7.get 3 rfl, ?_, A7.set 3 rfl _⟩
      rw [List.length_map]
      have := List.length_filter_le (fun z => !decide (z ∈ nm)) (nm5.take j)
      have := List.length_take_le' j nm5
      have : nm5.length = 5 := rfl
      exact szn' (by omega)
    · rw [List.filter_cons_of_neg (by rw [decide_eq_true h]; decide), List.filter_nil, List.map_nil, List.append_nil]
      exact A7
  intro H7 A7
  rw [List.length_map, List.take_length] at A7
  have hffl := List.length_filter_le (fun z => !decide (z ∈ nm)) nm5
  have h55 : nm5.length = 5 := rfl
  refine ⟨D, D2, _, _, rfl, rfl, A7.get 2 rfl, A7.get 3 rfl, szn (by simp only [List.length_map]; omega), fun p8 hp8 => ?_⟩
  rw [← List.map_append]
  generalize hsm : mv ++ nm5.filter (fun z => !decide (z ∈ nm)) = sm
  have A8 := A7.snoc hp8 (.lst (sm.map V.str))
  revert A8
  generalize upd H7 p8 (.lst (sm.map V.str)) = H8
  intro A8
  have hsmok : ∀ z ∈ sm, z ∈ nm7 := fun z hz => by
    rw [← hsm] at hz
    rcases List.mem_append.mp hz with hz | hz
    · exact hsub z (hmv.subset hz)
    · exact nm5_sub z (List.mem_filter.mp hz).1
  have hsml : sm.length ≤ 12 := by rw [← hsm, List.length_append]; omega
  have hsmm : mv.length ≤ sm.length := by rw [← hsm, List.length_append]; omega
  have hsmnd : sm.Nodup := by
    rw [← hsm, List.nodup_append]
    refine ⟨hnd.sublist hmv, (show nm5.Nodup by decide +kernel).filter _, fun x hx y hy e => ?_⟩
    subst e
    have := (List.mem_filter.mp hy).2
    rw [decide_eq_true (hmv.subset hx)] at this
    cases this
  have hsmem : ∀ z ∈ sm, z ∈ mv ∨ (z ∈ nm5 ∧ z ∉ nm) := fun z hz => by
    rw [← hsm] at hz
    rcases List.mem_append.mp hz with hz | hz
    · exact .inl hz
    · obtain ⟨h1, h2⟩ := List.mem_filter.mp hz
      exact .inr ⟨h1, by simpa using h2⟩
  walk_at "rd"
  refine rd_turned A8 0 rfl hs1 (A8.lst 4 rfl) (fun z hz => nameOk_ok (nm7_ok z (hsmok z hz))) (by omega) fun s5 py ys H9 hs5 hys A9 _ => ?_
  have A9 := A9.sel (L' := [(S, .lst [.int s5]), (D, .lst (mv.map V.str)), (py, .lst (ys.map V.str))]) (by simp) (by walk_at "sub")
  have hyl := hys.length_eq
  clear A8 A7
  have hysnd : ys.Nodup := hys.nodup_iff.mpr hsmnd
  walk_at "rd"
  refine ⟨D, rfl, ⟨_, A9.lst 1 rfl⟩, fun D3 hD3 => ?_⟩
  refine lc_it (walk_list (xs := mv.map V.str)) (fun j H' => ∃ (s : Int) (te : List (Addr × (Str × Option Str))) (left : List Str), Sd s ∧ te.map (·.2.1) = mv.take j ∧ left.length + j = ys.length ∧ (te.filterMap (·.2.2) ++ left).Nodup ∧ (∀ z ∈ te.filterMap (·.2.2), z ∈ ys) ∧ (∀ z ∈ left, z ∈ ys) ∧
      At [S] H H' [(S, .lst [.int s]), (D, .lst (mv.map V.str)), (py, .lst (left.map V.str)), (D3, .lst (te.map fun x : Addr × (Str × Option Str) => V.ref x.1))] (te.map tP))
    ⟨s5, [], ys, hs5, rfl, rfl, hysnd, by simp, fun _ h => h, A9.snoc hD3 _⟩ (fun j H' _ ⟨_, _, _, _, _, _, _, _, _, A⟩ => A.lst 1 rfl) ?_ ?_
  · rintro j x H10 H10' hj ⟨s6, te, left, hs6, hte, hll, hnd2, hn1, hn2, A10⟩ ⟨rfl, hx⟩
    obtain ⟨z, hz, rfl⟩ : ∃ z, mv[j]? = some z ∧ x = .str z := by
      rw [List.getElem?_map] at hx
      obtain ⟨y, hy, e⟩ := Option.map_eq_some_iff.mp hx
      exact ⟨y, hy, e.symm⟩
    have hjm := (List.getElem?_eq_some_iff.mp hz).1
    have ets : mv.take (j + 1) = mv.take j ++ [z] := by rw [List.take_add_one, hz]; rfl
    have htel : te.length = j := by
      have := congrArg List.length hte
      rw [List.length_map, List.length_take] at this
      omega
    obtain ⟨left', u, rfl⟩ : ∃ l u, left = l ++ [u] := by
      rcases List.eq_nil_or_concat left with h | ⟨l, u, h⟩
      · rw [h] at hll
        rw [List.length_nil] at hll
        omega
      · exact ⟨l, u, by rw [h, List.concat_eq_append]⟩
    rw [List.length_append, List.length_singleton] at hll
    refine ⟨rfl, rd_yes (rd_T ?_)⟩
    walk_at "rd"
    refine ⟨.inl ⟨rfl, _, A10.lst 2 rfl⟩, ?_⟩
    refine ⟨py, _, .str u, rfl, rfl, A10.get 2 rfl, by simp, ?_⟩
    have A11 := A10.set 2 rfl (.lst (left'.map V.str))
    have edl : ((left' ++ [u]).map V.str).dropLast = left'.map V.str := by rw [List.map_append]; exact List.dropLast_concat
    rw [edl]
    revert A11
    generalize upd H10' py (.lst (left'.map V.str)) = H11
    intro A11
    walk_at "rd"
    refine ⟨szl rfl, fun p2 hp2 => ?_⟩
    have A12 := A11.snoc hp2 (.lst [.str u, .non])
    revert A12
    generalize upd H11 p2 (.lst [.str u, .non]) = H12
    intro A12
    walk_at "rd"
    refine rd_next A12 0 rfl hs6 (by decide) fun s7 r7 H13 hs7 _ _ A13 => ?_
    walk_at "rd"
    refine .inr ⟨_, rfl, ?_⟩
    have key : ∀ o : Option Str, (o = none ∨ o = some u) → ∀ t, H13 t = none → ∃ acc, (upd H13 t (.tup [.str z, ov o])) D3 = some (.lst acc) ∧ acc.length < sizeLine ∧
        ∃ (s : Int) (te : List (Addr × (Str × Option Str))) (left : List Str), Sd s ∧ te.map (·.2.1) = mv.take (j + 1) ∧ left.length + (j + 1) = ys.length ∧ (te.filterMap (·.2.2) ++ left).Nodup ∧ (∀ z ∈ te.filterMap (·.2.2), z ∈ ys) ∧ (∀ z ∈ left, z ∈ ys) ∧
      At [S] H (upd (upd H13 t (.tup [.str z, ov o])) D3 (.lst (acc ++ [.ref t]))) [(S, .lst [.int s]), (D, .lst (mv.map V.str)), (py, .lst (left.map V.str)), (D3, .lst (te.map fun x : Addr × (Str × Option Str) => V.ref x.1))] (te.map tP) := by
      intro o ho t ht
      have A14 := A13.snocT ht (.tup [.str z, ov o])
      have A15 := A14.set 3 rfl (.lst ((te.map fun x : Addr × (Str × Option Str) => V.ref x.1) ++ [.ref t]))
      have hu : u ∈ ys := hn2 u (by simp)
      have hnd3 : (te.filterMap (·.2.2) ++ [u] ++ left').Nodup := by
        refine (List.Perm.nodup_iff ?_).mp hnd2
        rw [List.append_assoc]
        exact List.Perm.append_left _ List.perm_append_comm
      refine ⟨_, A14.get 3 rfl, by rw [List.length_map]; exact szn' (by omega), s7, te ++ [(t, (z, o))], left', hs7, by rw [List.map_append, hte, ets]; rfl, by omega, ?_, ?_, fun y hy => hn2 y (List.mem_append_left _ hy), ?_⟩
      · rw [List.filterMap_append]
        rcases ho with rfl | rfl
        · rw [show List.filterMap (fun x : Addr × (Str × Option Str) => x.2.2) [(t, (z, none))] = [] from rfl, List.append_nil]
          exact hnd3.sublist ((List.sublist_append_left _ _).append (List.Sublist.refl _))
        · exact hnd3
      · intro y hy
        rw [List.filterMap_append] at hy
        rcases List.mem_append.mp hy with hy | hy
        · exact hn1 y hy
        · rcases ho with rfl | rfl
          · cases hy
          · have : y = u := by simpa using hy
            rw [this]; exact hu
      · rw [List.map_append, List.map_append]
        exact A15.sel (by simp) (by walk_at "sub")
    by_cases hc : r7 = 0
    · rw [decide_eq_true (by rw [hc])]
      refine rd_ixL (A13.lst 4 rfl) (v := .non) (by rfl) ?_
      walk_at "rd"
      refine ⟨szl rfl, fun t ht => ?_⟩
      exact key none (.inl rfl) t ht
    · rw [decide_eq_false (fun e => hc (V.int.inj e))]
      refine rd_ixL (A13.lst 4 rfl) (v := .str u) (by rfl) ?_
      walk_at "rd"
      refine ⟨szl rfl, fun t ht => ?_⟩
      exact key (some u) (.inr rfl) t ht
  · rintro H10 ⟨s6, te, left, hs6, hte, hll, hnd2, hn1, hn2, A10⟩
    rw [List.length_map, List.take_length] at hte
    refine q s6 D3 te H10 hs6 ⟨?_, ?_, fun z hz => ?_⟩ (A10.new0 3 rfl (by rw [List.mem_singleton]; exact A10.ne 3 0 rfl rfl (by decide))) (A10.get 3 rfl) (fun x hx => ⟨A10.tn x hx, A10.tm x hx⟩) A10.keep (A10.get 0 rfl)
    · rw [List.map_map]
      show (te.map (·.2.1)).Sublist nm
      rw [hte]; exact hmv
    · rw [List.filterMap_map]
      exact (List.nodup_append.mp hnd2).1
    · rw [List.filterMap_map] at hz
      rw [List.map_map]
      show z ∈ te.map (·.2.1) ∨ _
      rw [hte]
      exact hsmem z (hys.mem_iff.mp (hn1 z hz))
end
end Nn

namespace Nn
open PySem PySem.Spec PyProof.Rows L2
local macro_rules | `(tactic| walk_at "rd1") => `(tactic| first
  | with_reducible refine' rd_c ?_
  | ((with_reducible refine' rd_var ?h ?_); (case h => rfl))
  | with_reducible refine' rd_op ?_
  | with_reducible refine' rd_I0 ?_
  | with_reducible refine' rd_seq ?_
  | ((with_reducible refine' rd_mod ?h ?_); (case h => decide))
  | ((with_reducible refine' rd_fdiv ?h ?_); (case h => exact ⟨by decide, by decide⟩))
  | ((with_reducible refine' rd_pow ?h ?_); (case h => exact ⟨by decide, by decide, by decide⟩))
  | ((with_reducible refine' rd_mul ?h ?_); (case h => first | exact Or.inl (by decide) | exact Or.inr (by decide)))
  | with_reducible refine' rd_set ?_
  | with_reducible refine' rd_asg ?_
  | with_reducible refine' rd_cons ?_
  | with_reducible refine' rd_nil ?_
  | with_reducible refine' rd_call ?_
  | with_reducible refine' rd_cb ?_
  | with_reducible refine' rd_if ?_
  | with_reducible refine' rd_test ?_
  | with_reducible refine' rd_B ?_
  | with_reducible refine' rd_bl ?_
  | ((with_reducible refine' rd_eq ?h ?_); (case h => rfl))
  | ((with_reducible refine' rd_ne ?h ?_); (case h => rfl))
  | with_reducible refine' rd_not ?_
  | with_reducible refine' rd_and ?_
  | with_reducible refine' rd_or ?_
  | with_reducible refine' rd_notV ?_
  | with_reducible refine' rd_chain ?_
  | with_reducible refine' rd_ret ?_
  | with_reducible refine' rd_drop ?_
  | with_reducible refine' rd_next' ?_
  | with_reducible refine' rd_lst ?_
  | with_reducible refine' rd_tup ?_
  | with_reducible refine' rd_lc ?_
  | with_reducible refine' rd_rng1 ?_
  | with_reducible refine' rd_istr ?_
  | with_reducible refine' rd_ilst ?_
  | with_reducible refine' rd_ienum ?_
  | with_reducible refine' rd_bm0 ?_
  | with_reducible refine' rd_bm ?_
  | with_reducible refine' rd_m1 ?_
  | with_reducible refine' rd_sl ?_
  | with_reducible refine' rd_po0 ?_
  | with_reducible refine' rd_po1 ?_
  | with_reducible refine' rd_in ?_
  | with_reducible refine' rd_sub ?_
  | with_reducible refine' rd_ifE ?_
  | with_reducible refine' rd_un ?_
  | with_reducible refine' rd_U ?_
  | with_reducible refine' rd_brk ?_
  | with_reducible refine' rd_cont ?_
  | with_reducible refine' rd_yes ?_
  | with_reducible refine' rd_T ?_
  | with_reducible refine' rd_F ?_
  | with_reducible refine' rd_nT ?_
  | with_reducible refine' rd_nF ?_
  | with_reducible refine' rd_dni ?_
  | with_reducible refine' rd_di ?_
  | with_reducible refine' rd_dget ?_
  | with_reducible refine' rd_dget1 ?_
  | with_reducible refine' rd_dget2 ?_
  | with_reducible refine' rd_dget2N ?_
  | with_reducible refine' rd_dpop1 ?_
  | with_reducible refine' rd_ddel ?_
  | with_reducible refine' rd_mkN ?_
  | with_reducible refine' rd_mkV ?_
  | with_reducible refine' rd_dput ?_
  | with_reducible refine' rd_dnew ?_
  | with_reducible refine' rd_ikeys ?_
  | with_reducible refine' rd_gn ?_
  | with_reducible refine' rd_for ?_
  | with_reducible refine' rd_make ?_
  | with_reducible refine' rd_meth ?_
  | with_reducible refine' rd_fld ?_
  | with_reducible refine' rd_sfld ?_
  | with_reducible refine' rd_dc ?_
  | with_reducible refine' rd_items ?_
  | with_reducible refine' rd_sadd ?_
  | with_reducible refine' rd_ivals ?_
  | with_reducible refine' rd_callS ?_
  | with_reducible refine' rd_makeS ?_
  | with_reducible refine' rd_methS ?_
  | with_reducible refine' rd_fldH ?_
  | with_reducible refine' rd_mkO ?_)
local macro_rules | `(tactic| walk_at "sub") => `(tactic| repeat' (first | exact List.nil_sublist _ | exact List.Sublist.refl _ | apply List.Sublist.cons₂ | apply List.Sublist.cons))
local macro_rules | `(tactic| walk_at "rd") => `(tactic| repeat walk_at "rd1")

section
variable {P : Program} {w : World} {K : PySem.W.Frag} {mg : Str → Option Value} {base : Heap}
theorem checkN9 {k : Nat} {Cs : ErrCs} (c : ClX P w K mg base k "check_name" (spCheckX Cs)) : Cl P w K mg base k "check_name" spCheck :=
  c.noX fun vs H Q E ⟨z, e, hz, q⟩ => ⟨z, e, short_name hz, fun _ => q, fun h => by rw [hz] at h; cases h⟩
structure CLaw (P : Program) (w : World) (K : PySem.W.Frag) (mg : Str → Option Value) (base : Heap) (Cp : Addr) : Prop where
  _law_state : Cl P w K mg base 1 "_law_state" spState
  _law_next : Cl P w K mg base 1 "_law_next" spNext
  _law_small_pairs : Cl P w K mg base 3 "_law_small_pairs" (spSmall K)
  deeds : Cl P w K mg base 4 "deeds" (spDeedsN K Cp)
  _law_fewest : Cl P w K mg base 2 "_law_fewest" (spFewest K)
structure MLaw (P : Program) (w : World) (K : PySem.W.Frag) (mg : Str → Option Value) (base : Heap) (Cp : Addr) : Prop where
  Plan : Mr P w K mg base 3 "Plan" Cp (spInit Cp)
theorem small_good {nm : List Str} {prs : Prs} (hn : nm.Nodup) (hs : ∀ z ∈ nm, z ∈ nm7) (h : SmallP nm prs) : Good prs ∧ Fit nm prs ∧ ∀ z ∈ prs.filterMap (·.2), z ∈ nm ∨ z ∈ nm5 := by
  have ho : ∀ e ∈ prs, e.1 ∈ nm := fun e he => h.olds.subset (List.mem_map_of_mem he)
  have hw : ∀ z ∈ prs.filterMap (·.2), z ∈ nm ∨ z ∈ nm5 := fun z hz => (h.news z hz).imp (fun h1 => h.olds.subset h1) fun h1 => h1.1
  refine ⟨⟨fun e he => nm7_ok _ (hs _ (ho e he)), fun e he z hz => ?_, hn.sublist h.olds, h.newsNd, ?_⟩, ⟨fun z hz => h.olds.subset hz, fun z hz hm => ?_⟩, hw⟩
  · rcases hw z (List.mem_filterMap.mpr ⟨e, he, hz⟩) with h1 | h1
    · exact nm7_ok z (hs z h1)
    · exact nm7_ok z (nm5_sub z h1)
  · have h1 := h.olds.length_le
    rw [List.length_map] at h1
    have h2 := List.Nodup.length_le_of_subset hn (l₂ := nm7) hs
    have h3 : nm7.length = 7 := rfl
    omega
  · rcases h.news z hz with h1 | h1
    · exact h1
    · exact absurd hm h1.2
theorem take4 : ∀ k, k ≤ 4 → ("g" : Str) ∉ nm7.take k := by decide +kernel
def spLaw (K : PySem.W.Frag) : Sp := fun vs H Q _ => ∃ (a : Addr) (ns : List Int), vs = [.ref a] ∧ SqL K H a (ns.map V.int) ∧ ns.length ≤ 63 ∧ ∀ H', Q (.bl true) H'
theorem ok_law {f : Addr} {fd : FuncData} (F : Fun K "law" "law" slaw f fd) (B : Blt mg) {Cp : Addr} (C : CLaw P w K mg base Cp) (M : MLaw P w K mg base Cp) : FnOk P w K mg base CX0 5 f fd Plaw (spLaw K) := by
  refine F.ok sclaw (fun vs H Q E h => by obtain ⟨a, ns, rfl, _⟩ := h; rfl) (fun cdv A outer s0 H vs Q E hr h => ?_)
  obtain ⟨a, ns, rfl, hS, hlen, q⟩ := h
  refine ⟨_, pss_cons (ps_set (i := 1) sclaw.nd rfl (Or.inl rfl) (pe_lst (pa_cons pe_str (pa_cons pe_str (pa_cons pe_str (pa_cons pe_str (pa_cons pe_str (pa_cons pe_str (pa_cons pe_str pa_nil)))))))))
  (pss_cons (ps_for PassesOwn.never rfl (pi_enum (by rfl) B.enumerate (pa_cons (pe_slice sl_list (pv 0) po_none (po_some pe_int)) pa_nil)) (pg_tup rfl (pgs_cons (pg_name (i := 2) sclaw.nd rfl (Or.inl rfl)) (pgs_cons (pg_name (i := 3) sclaw.nd rfl (Or.inl rfl)) pgs_nil)))
   (pss_cons (ps_set (i := 4) sclaw.nd rfl (Or.inl rfl) (pe_cl C._law_state hr (by omega) (by rfl) (pa_cons (pv 3) (pa_cons (pv 2) pa_nil))))
  (pss_cons (ps_set (i := 5) sclaw.nd rfl (Or.inl rfl) (pe_slice sl_list (pv 1) po_none (po_some (pe_op op_add pe_int (pe_cl C._law_next hr (by omega) (by rfl) (pa_cons (pv 4) (pa_cons pe_int pa_nil)))))))
  (pss_cons (ps_set (i := 6) sclaw.nd rfl (Or.inl rfl) (pe_cl C._law_small_pairs hr (by omega) (by rfl) (pa_cons (pv 4) (pa_cons (pv 5) pa_nil))))
  (pss_cons (ps_set (i := 7) sclaw.nd rfl (Or.inr rfl) (pe_callTy (call_dictP rfl) (by rfl) B.dict (by decide +kernel) (pa_cons (pv 6) pa_nil)))
  (pss_cons (ps_set (i := 8) sclaw.nd rfl (Or.inl rfl) (pe_callTy call_tuple_of (by rfl) B.tuple (by decide +kernel) (pa_cons (pe_lc (own := [("_law_name", 10)]) rfl sclaw.nd (pi_list (pv 5)) (blkOk_by (N := Nlaw) (sc := defScope slaw) (by decide +kernel)) (fun _ _ _ _ _ => (pg_name (i := 10) sclaw.nd rfl (Or.inl rfl))) (fun _ _ _ _ _ => pts_nil) (fun _ _ _ _ _ => (pe_dget2 (hu_of hr) (pv 7) (pv 10) (pv 10) ⟨by rfl, by rfl, by rfl, by rfl⟩))) pa_nil)))
  (pss_cons (ps_set (i := 9) sclaw.nd rfl (Or.inl rfl) (pe_cl C.deeds hr (by omega) (by rfl) (pa_cons (pe_mr M.Plan hr (by omega) (by rfl) (pa_cons (pv 6) pa_nil)) (pa_cons (pv 5) (pa_cons pe_str pa_nil)))))
  (pss_one (ps_if (pt_cmpR op_ne (pe_callB call_len_seq (by rfl) B.len (by decide +kernel) (pa_cons (pv 9) pa_nil)) (pe_cl C._law_fewest hr (by omega) (by rfl) (pa_cons (pe_callTy call_tuple_of (by rfl) B.tuple (by decide +kernel) (pa_cons (pv 5) pa_nil)) (pa_cons (pv 8) (pa_cons (pv 1) pa_nil)))) (nomark _)) (pss_one (ps_ret pe_bl))
   (pss_nil))))))))))
  (pss_one (ps_ret pe_bl))), ?_⟩
  dsimp only [cxOf, Cx.nox]
  have A := At.nil H
  walk_at "rd"
  refine ⟨szl, fun pn hpn => A.u2 hpn fun H1 A1 => ?_⟩
  have A1 : At [] H H1 [(pn, .lst (nm7.map V.str))] [] := A1
  clear A
  walk_at "rd"
  refine rd_slL A1 (A1.sq hS (by simp)) fun ps H2 A2 => ?_
  rw [cut_to _ _ (by decide), show Int.toNat 10 = 10 from rfl, ← List.map_take] at A2
  have hl10 : (ns.take 10).length ≤ 10 := List.length_take_le _ _
  walk_at "rd"
  refine ⟨ps, _, rfl, A2.lst 1 rfl, ?_⟩
  refine forI (walk_enum (xs := (ns.take 10).map V.int)) (fun _ σ H' => ∃ (y2 y3 y4 y5 y6 y7 y8 y9 : Option V), σ = [some (.ref a), some (.ref pn), y2, y3, y4, y5, y6, y7, y8, y9, none] ∧ At [] H H' [(pn, .lst (nm7.map V.str)), (ps, .lst ((ns.take 10).map V.int))] [])
    ⟨_, _, _, _, _, _, _, _, rfl, A2⟩ (fun _ _ _ _ ⟨_, _, _, _, _, _, _, _, _, A⟩ => A.lst 1 rfl) ?_ ?_
  · clear A2 A1
    rintro i x σ H3 H4 hi ⟨y2, y3, y4, y5, y6, y7, y8, y9, rfl, A3⟩ ⟨T0, v1, x, rfl, hT0, rfl, e1, hi'⟩
    cases Option.some.inj e1
    have A4 := A3.skip (Sk.of (o := .tup [.int (i : Nat), x]) hT0)
    refine ⟨T0, [.int (i : Nat), x], rfl, .inl (.inl upd_same), rfl, _, _, rfl, _, _, rfl, rfl, ?_⟩
    revert A4
    generalize upd H3 T0 (.tup [.int (i : Nat), x]) = H4
    intro A4
    clear A3
    obtain ⟨cell, rfl⟩ : ∃ c, x = V.int c := by
      have hi' : ((ns.take 10).map V.int)[i]? = some x := hi'
      rw [List.getElem?_map] at hi'
      obtain ⟨c, _, e⟩ := Option.map_eq_some_iff.mp hi'
      exact ⟨c, e.symm⟩
    walk_at "rd"
    refine rd_state A4 fun s S H5 hs A5 => ?_
    walk_at "rd"
    refine rd_next A5 2 rfl hs (by decide) fun s1 r1 H6 hs1 r0 r4 A6 => ?_
    walk_at "rd"
    refine rd_slL A6 (A6.lst 0 rfl) fun ph H7 A7 => ?_
    rw [cut_to _ _ (by omega), ← List.map_take] at A7
    have hk4 : (1 + r1).toNat ≤ 4 := by omega
    have hno := take4 _ hk4
    have hnd : (nm7.take (1 + r1).toNat).Nodup := nm7_nd.sublist (List.take_sublist _ _)
    have hsub : ∀ z ∈ nm7.take (1 + r1).toNat, z ∈ nm7 := fun z hz => List.mem_of_mem_take hz
    have hnl : (nm7.take (1 + r1).toNat).length ≤ 4 := Nat.le_trans (List.length_take_le _ _) hk4
    generalize nm7.take (1 + r1).toNat = nm at *
    walk_at "rd"
    -- the pairs
    refine ⟨S, ph, s1, nm, rfl, A7.get 2 rfl, hs1, A7.lst 3 rfl, hnd, hsub, fun s2 pa te H8 hs2 hsm hpa hpa' hte k8 hS8 => ?_⟩
    have A8 := A7.addC (A7.c1 2 rfl k8 hS8) rfl hpa hpa' (te.map tP) hte (tP_ne hpa' fun x hx => (hte x hx).2)
    have A8 : At [] H H8 [(pn, .lst (nm7.map V.str)), (ps, .lst ((ns.take 10).map V.int)), (S, .lst [.int s2]), (ph, .lst (nm.map V.str)), (pa, .lst (te.map fun x => V.ref x.1))] (te.map tP) := A8
    obtain ⟨hg, ft, hw⟩ := small_good hnd hsub hsm
    clear A7 A6 A5 A4
    walk_at "rd"
    -- the leads
    refine ⟨pa, te.map (·.1), dko (te.map (·.2)), rfl, ?_, dict_pairs A8.tm, fun d hd => ?_⟩
    · rw [List.map_map]; exact A8.lst 4 rfl
    rw [dko_merge hg.oldsNd]
    have A9 := A8.snoc hd (.dK (dko (te.map (·.2))))
    revert A9
    generalize upd H8 d (.dK (dko (te.map (·.2)))) = H9
    intro A9
    walk_at "rd"
    -- the goals
    refine ⟨ph, rfl, ⟨_, A9.lst 3 rfl⟩, fun D hD => ?_⟩
    refine lc_it (walk_list (xs := nm.map V.str)) (fun j H' => At [] H H' [(pn, .lst (nm7.map V.str)), (ps, .lst ((ns.take 10).map V.int)), (S, .lst [.int s2]), (ph, .lst (nm.map V.str)), (pa, .lst (te.map fun x : Addr × (Str × Option Str) => V.ref x.1)), (d, .dK (dko (te.map (·.2)))), (D, .lst (vP ((goalsF (te.map (·.2)) nm).take j)))] (te.map tP)) (A9.snoc hD _) (fun j H' _ A => A.lst 3 rfl) ?_ ?_
    · rintro j x H10 H10' hj A10 ⟨rfl, hx⟩
      obtain ⟨z, hz, rfl⟩ : ∃ z, nm[j]? = some z ∧ x = .str z := by
        rw [List.getElem?_map] at hx
        obtain ⟨y, hy, e⟩ := Option.map_eq_some_iff.mp hx
        exact ⟨y, hy, e.symm⟩
      refine ⟨rfl, rd_yes (rd_T ?_)⟩
      walk_at "rd"
      refine ⟨d, rfl, .inl ⟨_, .inl (A10.get 5 rfl)⟩, ?_⟩
      walk_at "rd"
      refine ⟨_, DGet.k (k := Sum.inr z) (A10.get 5 rfl), ?_⟩
      have ev : (valV (dko (te.map (·.2))) (Sum.inr z)).getD (.str z) = ov (toO (te.map (·.2)) z) := by
        rw [valV_dko]
        unfold toO
        cases (te.map (·.2)).find? fun e => decide (e.1 = z) <;> rfl
      rw [ev]
      have eg : (goalsF (te.map (·.2)) nm).take (j + 1) = (goalsF (te.map (·.2)) nm).take j ++ [toO (te.map (·.2)) z] := by
        rw [List.take_add_one, goals_at.mpr ⟨z, hz, rfl⟩]; rfl
      refine ⟨_, A10.get 6 rfl, ?_, ?_⟩
      · unfold vP goalsF
        rw [List.length_map, List.length_take, List.length_map]
        exact szn' (by omega)
      · have A11 := A10.set 6 rfl (.lst (vP ((goalsF (te.map (·.2)) nm).take j) ++ [ov (toO (te.map (·.2)) z)]))
        rw [eg]
        have e2 : vP ((goalsF (te.map (·.2)) nm).take j ++ [toO (te.map (·.2)) z]) = vP ((goalsF (te.map (·.2)) nm).take j) ++ [ov (toO (te.map (·.2)) z)] := by unfold vP; rw [List.map_append]; rfl
        rw [e2]
        exact A11
    intro H10 A10
    have egl : (goalsF (te.map (·.2)) nm).length = nm.length := by unfold goalsF; rw [List.length_map]
    rw [List.length_map, ← egl, List.take_length] at A10
    walk_at "rd"
    refine ⟨D, _, rfl, .inl ⟨A10.lst 6 rfl, fun pg hpg => ?_⟩⟩
    have A11 := A10.snoc hpg (.tup (vP (goalsF (te.map (·.2)) nm)))
    have A11 := A11.sel (L' := [(pn, .lst (nm7.map V.str)), (ps, .lst ((ns.take 10).map V.int)), (ph, .lst (nm.map V.str)), (pa, .lst (te.map fun x : Addr × (Str × Option Str) => V.ref x.1)), (pg, .tup (vP (goalsF (te.map (·.2)) nm)))]) (by simp) (by walk_at "sub")
    revert A11
    generalize upd H10 pg (.tup (vP (goalsF (te.map (·.2)) nm))) = H11
    intro A11
    clear A10 A9 A8
    walk_at "rd"
    -- the plan, the deeds
    intro pl dx hpl hdx hne
    refine plan_new A11 hpl hdx hne (A11.get 3 rfl) (fun x hx => A11.tm x hx) hg fun H12 dd lv hlv hso k12 A12 => ⟨rfl, ?_⟩
    have A12 : At [] H H12 [(pn, .lst (nm7.map V.str)), (ps, .lst ((ns.take 10).map V.int)), (ph, .lst (nm.map V.str)), (pa, .lst (te.map fun x : Addr × (Str × Option Str) => V.ref x.1)), (pg, .tup (vP (goalsF (te.map (·.2)) nm))), (pl, .ins Cp dx [("_leads", .ref dd)]), (dd, .dK (dko lv))] (te.map tP) := A12
    have glv : Good lv := Good.perm hlv hg
    have ftl : Fit nm lv := ft.perm hlv
    have egoals : goalsF (te.map (·.2)) nm = goalsF lv nm := by
      unfold goalsF
      exact List.map_congr_left fun z _ => (toO_perm hg.oldsNd hlv z).symm
    rw [egoals] at A12
    have hwl : ∀ z ∈ lv.filterMap (·.2), z ∈ nm ∨ z ∈ nm5 := fun z hz => hw z ((hlv.filterMap _).mem_iff.mp hz)
    have hgw : ("g" : Str) ∉ lv.filterMap (·.2) := fun h => (hwl _ h).elim hno g_no5
    obtain ⟨nl, hpnl, hsnl⟩ := exists_sorted (lv.filterMap (·.2))
    have hgs : Short "g" := short_name (nm7_ok _ (by decide +kernel))
    have hde : deedsE lv nl nm (some "g") = none := by
      unfold deedsE
      rw [ftl.fitF (List.Perm.refl _) hpnl]
      show spareF "g" lv nm = none
      unfold spareF
      rw [if_neg (by rw [nm7_ok _ (by decide +kernel : ("g" : Str) ∈ nm7)]; decide), if_neg]
      rintro (h | h)
      · exact hno h
      · exact hgw h
    have hll : lv.length ≤ 7 := by
      have h1 := hsm.olds.length_le
      rw [List.length_map] at h1
      have := hlv.length_eq
      omega
    walk_at "rd"
    refine ⟨pl, ph, lv, nl, nm, some "g", rfl, ⟨⟨dx, dd, A12.get 5 rfl, A12.get 6 rfl⟩, A12.lst 2 rfl, glv, by omega, hpnl, hsnl⟩, hso, (fun z hz => by cases hz; exact hgs), hde, fun H13 pd rs hrs hpd hpd' hN k13 => ?_⟩
    have A13 := A12.addB k13 hpd hpd' (rs.map tR) hN (tR_ne hpd' fun x hx => (hN x hx).2)
    clear A12 A11
    walk_at "rd"
    refine ⟨pd, _, rfl, .inl (A13.lst 7 rfl), ?_⟩
    rw [List.length_map, rs_len hrs]
    walk_at "rd"
    refine ⟨ph, _, rfl, .inl ⟨A13.lst 2 rfl, fun pb hpb => ?_⟩⟩
    have eb : nm.map V.str = vP (placesF nm) := by unfold vP placesF; rw [List.map_map]; rfl
    rw [eb]
    have A14 := A13.snoc hpb (.tup (vP (placesF nm)))
    revert A14
    generalize upd H13 pb (.tup (vP (placesF nm))) = H14
    intro A14
    clear A13
    walk_at "rd"
    have hs9 : ringsF lv ≠ [] → (some "g" : Option Str).getD "" ∉ nm ∧ (some "g" : Option Str).getD "" ∉ lv.filterMap (·.2) := fun _ => ⟨hno, hgw⟩
    have hw7 : ∀ z ∈ lv.filterMap (·.2), z ∈ nm7 := fun z hz => (hwl z hz).elim (hsub z) (nm5_sub z)
    have hs7 : ringsF lv ≠ [] → (some "g" : Option Str).getD "" ∈ nm7 := fun _ => (by decide +kernel : ("g" : Str) ∈ nm7)
    have hpn' : (placesF nm).length = nm.length := by unfold placesF; rw [List.length_map]
    have hgn' : (goalsF lv nm).length = nm.length := by unfold goalsF; rw [List.length_map]
    refine ⟨pb, pg, pn, placesF nm, goalsF lv nm, nm7, nm.length, rfl, A14.get 8 rfl, A14.get 4 rfl, A14.lst 0 rfl, mem_allP.mpr ⟨hpn', fun z hz => ?_⟩, hgn', by omega, by decide, ?_, ⟨_, (deeds_row glv hnd ftl hs9 hsub hw7 hs7).way .nil⟩, fun l H15 wl hl k15 => ?_⟩
    · unfold placesF at hz
      obtain ⟨y, hy, e⟩ := List.mem_map.mp hz
      cases e
      exact hsub _ hy
    · refine Nat.le_trans (Nat.pow_le_pow_right (by decide) hnl) (by decide)
    have hdl := deeds_least glv hnd ftl hs9 hsub hw7 hs7 wl hl
    rw [hdl]
    refine ⟨rfl, rd_bl ?_⟩
    rw [decide_eq_true rfl]
    refine rd_nT ?_
    walk_at "rd"
    exact ⟨_, _, _, _, _, _, _, _, rfl, ((A14.c0 k15).sel (L' := [(pn, .lst (nm7.map V.str)), (ps, .lst ((ns.take 10).map V.int))]) (by simp) (by walk_at "sub")).selT [] (by simp)⟩
  · rintro σ H3 ⟨y2, y3, y4, y5, y6, y7, y8, y9, rfl, A3⟩
    walk_at "rd"
    exact q _
end
end Nn

namespace Nn
open PySem PySem.Spec PyProof.Rows L2
/-! ### what the top has left, the theorem -/
theorem all_mk {l : PySem.W.OpenLaw} {w : World} {K : PySem.W.Frag} {h : Heap} {mg : Str → Option Value} {fa : Addr} (X : K.In h) (G : h.Ns mainGlobals mg) (hfa : mg "law" = some (.ref fa))
    {dT3 : Addr} {dtc3 : Value} {dtd3 : Option Addr} {dtn3 : Nat} {dts3 : Array (Option Value)}
    {f0 f1 f2 f3 f4 f5 f6 f7 f8 f9 f10 f11 f12 f13 f14 f15 f16 : Addr}
    {od0 an0 od1 an1 od2 an2 od3 an3 od4 an4 od5 an5 od6 an6 od7 an7 od8 an8 od9 an9 od10 an10 od11 an11 od12 an12 od13 an13 od14 an14 od15 an15 od16 an16 : Option Addr} {sl0 sl1 sl2 sl3 sl4 sl5 sl6 sl7 sl8 sl9 sl10 sl11 sl12 sl13 sl14 sl15 sl16 : Array (Option Value)} {oc0 kV0 dc0 pm0 cd0 ct0 oc1 kV1 dc1 pm1 cd1 ct1 oc2 kV2 dc2 pm2 cd2 ct2 oc3 kV3 dc3 pm3 cd3 ct3 oc4 kV4 dc4 pm4 cd4 ct4 oc5 kV5 dc5 pm5 cd5 ct5 oc6 kV6 dc6 pm6 cd6 ct6 oc7 kV7 dc7 pm7 cd7 ct7 oc8 kV8 dc8 pm8 cd8 ct8 oc9 kV9 dc9 pm9 cd9 ct9 oc10 kV10 dc10 pm10 cd10 ct10 oc11 kV11 dc11 pm11 cd11 ct11 oc12 kV12 dc12 pm12 cd12 ct12 oc13 kV13 dc13 pm13 cd13 ct13 oc14 kV14 dc14 pm14 cd14 ct14 oc15 kV15 dc15 pm15 cd15 ct15 oc16 kV16 dc16 pm16 cd16 ct16 : Value}
    {C0 mf0_0 mf0_1 mf0_2 mf0_3 mf0_4 : Addr} {mod0_0 mod0_1 mod0_2 mod0_3 mod0_4 man0_0 man0_1 man0_2 man0_3 man0_4 : Option Addr} {msl0_0 msl0_1 msl0_2 msl0_3 msl0_4 : Array (Option Value)} {moc0_0 moc0_1 moc0_2 moc0_3 moc0_4 mkV0_0 mkV0_1 mkV0_2 mkV0_3 mkV0_4 mdc0_0 mdc0_1 mdc0_2 mdc0_3 mdc0_4 mpm0_0 mpm0_1 mpm0_2 mpm0_3 mpm0_4 mcd0_0 mcd0_1 mcd0_2 mcd0_3 mcd0_4 mct0_0 mct0_1 mct0_2 mct0_3 mct0_4 : Value}
    {tk0 tk1 tk2 : Tok}
    {CN E0 E1 E2 E3 E5 : Addr}
    {en2 eq2 : Str} {eN2 ef2 ecda2 ecc2 : Addr} {ebs2 esub2 : List Value} {esn2 : List Str} {eab2 : Bool} {ecol2 : Option Bool} {edd2 eod2 ean2 ecdd2 ecld2 : Option Addr} {ek0_2 ek1_2 ek2_2 ek3_2 ek5_2 : Option Value} {eoc2 ekV2 edc2 epm2 ect2 eccl2 ecl2 : Value} {esl2 eccs2 ecsl2 : Array (Option Value)} {evs2 : Array Value} {efile2 : Str} {etf2 : Tok}
    {en3 eq3 : Str} {eN3 ef3 ecda3 ecc3 : Addr} {ebs3 esub3 : List Value} {esn3 : List Str} {eab3 : Bool} {ecol3 : Option Bool} {edd3 eod3 ean3 ecdd3 ecld3 : Option Addr} {ek0_3 ek1_3 ek2_3 ek3_3 ek5_3 : Option Value} {eoc3 ekV3 edc3 epm3 ect3 eccl3 ecl3 : Value} {esl3 eccs3 ecsl3 : Array (Option Value)} {evs3 : Array Value} {efile3 : Str} {etf3 : Tok}
    {en5 eq5 : Str} {eN5 ef5 ecda5 ecc5 : Addr} {ebs5 esub5 : List Value} {esn5 : List Str} {eab5 : Bool} {ecol5 : Option Bool} {edd5 eod5 ean5 ecdd5 ecld5 : Option Addr} {ek0_5 ek1_5 ek2_5 ek3_5 ek5_5 : Option Value} {eoc5 ekV5 edc5 epm5 ect5 eccl5 ecl5 : Value} {esl5 eccs5 ecsl5 : Array (Option Value)} {evs5 : Array Value} {efile5 : Str} {etf5 : Tok}
    (a0 : PySem.W.nsIn K mainGlobals "is_name" = some (some (.ref f0)))
    (l0 : K.lookup f0 = some ⟨oc0, od0, .func (PySem.W.fnOf "is_name" "is_name" (defArgs sis_name) (defBody sis_name) (defScope sis_name) .none kV0 dc0 pm0 an0 cd0 ct0), sl0⟩)
    (c0 : PySem.W.codeIn K cd0 "is_name" = true)
    (k0 : PySem.W.keepIn K (.ref f0) = true)
    (a1 : PySem.W.nsIn K mainGlobals "check_name" = some (some (.ref f1)))
    (l1 : K.lookup f1 = some ⟨oc1, od1, .func (PySem.W.fnOf "check_name" "check_name" (defArgs scheck_name) (defBody scheck_name) (defScope scheck_name) .none kV1 dc1 pm1 an1 cd1 ct1), sl1⟩)
    (c1 : PySem.W.codeIn K cd1 "check_name" = true)
    (k1 : PySem.W.keepIn K (.ref f1) = true)
    (a2 : PySem.W.nsIn K mainGlobals "fits" = some (some (.ref f2)))
    (l2 : K.lookup f2 = some ⟨oc2, od2, .func (PySem.W.fnOf "fits" "fits" (defArgs sfits) (defBody sfits) (defScope sfits) .none kV2 dc2 pm2 an2 cd2 ct2), sl2⟩)
    (c2 : PySem.W.codeIn K cd2 "fits" = true)
    (k2 : PySem.W.keepIn K (.ref f2) = true)
    (a3 : PySem.W.nsIn K mainGlobals "deeds" = some (some (.ref f3)))
    (l3 : K.lookup f3 = some ⟨oc3, od3, .func (PySem.W.fnOf "deeds" "deeds" (defArgs sdeeds) (defBody sdeeds) (defScope sdeeds) (.ref dT3) kV3 dc3 pm3 an3 cd3 ct3), sl3⟩)
    (dl3 : K.lookup dT3 = some ⟨dtc3, dtd3, .seq #[.none] dtn3, dts3⟩)
    (c3 : PySem.W.codeIn K cd3 "deeds" = true)
    (k3 : PySem.W.keepIn K (.ref f3) = true)
    (a4 : PySem.W.nsIn K mainGlobals "_check_no_rings" = some (some (.ref f4)))
    (l4 : K.lookup f4 = some ⟨oc4, od4, .func (PySem.W.fnOf "_check_no_rings" "_check_no_rings" (defArgs s_check_no_rings) (defBody s_check_no_rings) (defScope s_check_no_rings) .none kV4 dc4 pm4 an4 cd4 ct4), sl4⟩)
    (c4 : PySem.W.codeIn K cd4 "_check_no_rings" = true)
    (k4 : PySem.W.keepIn K (.ref f4) = true)
    (a5 : PySem.W.nsIn K mainGlobals "_check_spare" = some (some (.ref f5)))
    (l5 : K.lookup f5 = some ⟨oc5, od5, .func (PySem.W.fnOf "_check_spare" "_check_spare" (defArgs s_check_spare) (defBody s_check_spare) (defScope s_check_spare) .none kV5 dc5 pm5 an5 cd5 ct5), sl5⟩)
    (c5 : PySem.W.codeIn K cd5 "_check_spare" = true)
    (k5 : PySem.W.keepIn K (.ref f5) = true)
    (a6 : PySem.W.nsIn K mainGlobals "deeds_over" = some (some (.ref f6)))
    (l6 : K.lookup f6 = some ⟨oc6, od6, .func (PySem.W.fnOf "deeds_over" "deeds_over" (defArgs sdeeds_over) (defBody sdeeds_over) (defScope sdeeds_over) .none kV6 dc6 pm6 an6 cd6 ct6), sl6⟩)
    (c6 : PySem.W.codeIn K cd6 "deeds_over" = true)
    (k6 : PySem.W.keepIn K (.ref f6) = true)
    (a7 : PySem.W.nsIn K mainGlobals "_chain_deeds" = some (some (.ref f7)))
    (l7 : K.lookup f7 = some ⟨oc7, od7, .func (PySem.W.fnOf "_chain_deeds" "_chain_deeds" (defArgs s_chain_deeds) (defBody s_chain_deeds) (defScope s_chain_deeds) .none kV7 dc7 pm7 an7 cd7 ct7), sl7⟩)
    (c7 : PySem.W.codeIn K cd7 "_chain_deeds" = true)
    (k7 : PySem.W.keepIn K (.ref f7) = true)
    (a8 : PySem.W.nsIn K mainGlobals "_moves_up" = some (some (.ref f8)))
    (l8 : K.lookup f8 = some ⟨oc8, od8, .func (PySem.W.fnOf "_moves_up" "_moves_up" (defArgs s_moves_up) (defBody s_moves_up) (defScope s_moves_up) .none kV8 dc8 pm8 an8 cd8 ct8), sl8⟩)
    (c8 : PySem.W.codeIn K cd8 "_moves_up" = true)
    (k8 : PySem.W.keepIn K (.ref f8) = true)
    (a9 : PySem.W.nsIn K mainGlobals "_ring_deeds" = some (some (.ref f9)))
    (l9 : K.lookup f9 = some ⟨oc9, od9, .func (PySem.W.fnOf "_ring_deeds" "_ring_deeds" (defArgs s_ring_deeds) (defBody s_ring_deeds) (defScope s_ring_deeds) .none kV9 dc9 pm9 an9 cd9 ct9), sl9⟩)
    (c9 : PySem.W.codeIn K cd9 "_ring_deeds" = true)
    (k9 : PySem.W.keepIn K (.ref f9) = true)
    (a10 : PySem.W.nsIn K mainGlobals "_law_state" = some (some (.ref f10)))
    (l10 : K.lookup f10 = some ⟨oc10, od10, .func (PySem.W.fnOf "_law_state" "_law_state" (defArgs s_law_state) (defBody s_law_state) (defScope s_law_state) .none kV10 dc10 pm10 an10 cd10 ct10), sl10⟩)
    (c10 : PySem.W.codeIn K cd10 "_law_state" = true)
    (k10 : PySem.W.keepIn K (.ref f10) = true)
    (a11 : PySem.W.nsIn K mainGlobals "_law_next" = some (some (.ref f11)))
    (l11 : K.lookup f11 = some ⟨oc11, od11, .func (PySem.W.fnOf "_law_next" "_law_next" (defArgs s_law_next) (defBody s_law_next) (defScope s_law_next) .none kV11 dc11 pm11 an11 cd11 ct11), sl11⟩)
    (c11 : PySem.W.codeIn K cd11 "_law_next" = true)
    (k11 : PySem.W.keepIn K (.ref f11) = true)
    (a12 : PySem.W.nsIn K mainGlobals "_law_turned" = some (some (.ref f12)))
    (l12 : K.lookup f12 = some ⟨oc12, od12, .func (PySem.W.fnOf "_law_turned" "_law_turned" (defArgs s_law_turned) (defBody s_law_turned) (defScope s_law_turned) .none kV12 dc12 pm12 an12 cd12 ct12), sl12⟩)
    (c12 : PySem.W.codeIn K cd12 "_law_turned" = true)
    (k12 : PySem.W.keepIn K (.ref f12) = true)
    (a13 : PySem.W.nsIn K mainGlobals "_law_small_pairs" = some (some (.ref f13)))
    (l13 : K.lookup f13 = some ⟨oc13, od13, .func (PySem.W.fnOf "_law_small_pairs" "_law_small_pairs" (defArgs s_law_small_pairs) (defBody s_law_small_pairs) (defScope s_law_small_pairs) .none kV13 dc13 pm13 an13 cd13 ct13), sl13⟩)
    (c13 : PySem.W.codeIn K cd13 "_law_small_pairs" = true)
    (k13 : PySem.W.keepIn K (.ref f13) = true)
    (a14 : PySem.W.nsIn K mainGlobals "_law_further" = some (some (.ref f14)))
    (l14 : K.lookup f14 = some ⟨oc14, od14, .func (PySem.W.fnOf "_law_further" "_law_further" (defArgs s_law_further) (defBody s_law_further) (defScope s_law_further) .none kV14 dc14 pm14 an14 cd14 ct14), sl14⟩)
    (c14 : PySem.W.codeIn K cd14 "_law_further" = true)
    (k14 : PySem.W.keepIn K (.ref f14) = true)
    (a15 : PySem.W.nsIn K mainGlobals "_law_fewest" = some (some (.ref f15)))
    (l15 : K.lookup f15 = some ⟨oc15, od15, .func (PySem.W.fnOf "_law_fewest" "_law_fewest" (defArgs s_law_fewest) (defBody s_law_fewest) (defScope s_law_fewest) .none kV15 dc15 pm15 an15 cd15 ct15), sl15⟩)
    (c15 : PySem.W.codeIn K cd15 "_law_fewest" = true)
    (k15 : PySem.W.keepIn K (.ref f15) = true)
    (a16 : PySem.W.nsIn K mainGlobals "law" = some (some (.ref f16)))
    (l16 : K.lookup f16 = some ⟨oc16, od16, .func (PySem.W.fnOf "law" "law" (defArgs slaw) (defBody slaw) (defScope slaw) .none kV16 dc16 pm16 an16 cd16 ct16), sl16⟩)
    (c16 : PySem.W.codeIn K cd16 "law" = true)
    (k16 : PySem.W.keepIn K (.ref f16) = true)
    (ac0 : PySem.W.nsIn K mainGlobals "Plan" = some (some (.ref C0)))
    (pg0 : PySem.W.plainGet K C0 Str.empty = true)
    (hd0 : PySem.W.hasDictIn K C0 = true)
    (po0 : PySem.W.plainOver K C0 = true)
    (sa0 : PySem.W.findIn K (.ref C0) "__setattr__" = some (some (.builtin "object.__setattr__")))
    (kk0 : PySem.W.keepIn K (.ref C0) = true)
    (mk0 : PySem.W.makesIn K C0 = true)
    (na0_0 : PySem.W.findIn K (.ref C0) "_leads" = some none)
    (ma0_0 : PySem.W.findIn K (.ref C0) "__init__" = some (some (.ref mf0_0)))
    (mi0_0 : PySem.W.isFn K (.ref mf0_0) = true)
    (ml0_0 : K.lookup mf0_0 = some ⟨moc0_0, mod0_0, .func (PySem.W.fnOf "__init__" "Plan.__init__" (defArgs sPlan___init__) (defBody sPlan___init__) (defScope sPlan___init__) .none mkV0_0 mdc0_0 mpm0_0 man0_0 mcd0_0 mct0_0), msl0_0⟩)
    (mc0_0 : PySem.W.codeIn K mcd0_0 "Plan.__init__" = true)
    (mp0_0 : PySem.W.keepIn K (.ref mf0_0) = true)
    (ma0_1 : PySem.W.findIn K (.ref C0) "pairs" = some (some (.ref mf0_1)))
    (mi0_1 : PySem.W.isFn K (.ref mf0_1) = true)
    (ml0_1 : K.lookup mf0_1 = some ⟨moc0_1, mod0_1, .func (PySem.W.fnOf "pairs" "Plan.pairs" (defArgs sPlan_pairs) (defBody sPlan_pairs) (defScope sPlan_pairs) .none mkV0_1 mdc0_1 mpm0_1 man0_1 mcd0_1 mct0_1), msl0_1⟩)
    (mc0_1 : PySem.W.codeIn K mcd0_1 "Plan.pairs" = true)
    (mp0_1 : PySem.W.keepIn K (.ref mf0_1) = true)
    (ma0_2 : PySem.W.findIn K (.ref C0) "olds" = some (some (.ref mf0_2)))
    (mi0_2 : PySem.W.isFn K (.ref mf0_2) = true)
    (ml0_2 : K.lookup mf0_2 = some ⟨moc0_2, mod0_2, .func (PySem.W.fnOf "olds" "Plan.olds" (defArgs sPlan_olds) (defBody sPlan_olds) (defScope sPlan_olds) .none mkV0_2 mdc0_2 mpm0_2 man0_2 mcd0_2 mct0_2), msl0_2⟩)
    (mc0_2 : PySem.W.codeIn K mcd0_2 "Plan.olds" = true)
    (mp0_2 : PySem.W.keepIn K (.ref mf0_2) = true)
    (ma0_3 : PySem.W.findIn K (.ref C0) "news" = some (some (.ref mf0_3)))
    (mi0_3 : PySem.W.isFn K (.ref mf0_3) = true)
    (ml0_3 : K.lookup mf0_3 = some ⟨moc0_3, mod0_3, .func (PySem.W.fnOf "news" "Plan.news" (defArgs sPlan_news) (defBody sPlan_news) (defScope sPlan_news) .none mkV0_3 mdc0_3 mpm0_3 man0_3 mcd0_3 mct0_3), msl0_3⟩)
    (mc0_3 : PySem.W.codeIn K mcd0_3 "Plan.news" = true)
    (mp0_3 : PySem.W.keepIn K (.ref mf0_3) = true)
    (ma0_4 : PySem.W.findIn K (.ref C0) "rings" = some (some (.ref mf0_4)))
    (mi0_4 : PySem.W.isFn K (.ref mf0_4) = true)
    (ml0_4 : K.lookup mf0_4 = some ⟨moc0_4, mod0_4, .func (PySem.W.fnOf "rings" "Plan.rings" (defArgs sPlan_rings) (defBody sPlan_rings) (defScope sPlan_rings) .none mkV0_4 mdc0_4 mpm0_4 man0_4 mcd0_4 mct0_4), msl0_4⟩)
    (mc0_4 : PySem.W.codeIn K mcd0_4 "Plan.rings" = true)
    (mp0_4 : PySem.W.keepIn K (.ref mf0_4) = true)
    (kc0 : PySem.W.nsIn K mainGlobals "LONGEST" = some (some (.int 8 tk0)))
    (kc1 : PySem.W.nsIn K mainGlobals "MOVE" = some (some (.str "move" tk1)))
    (kc2 : PySem.W.nsIn K mainGlobals "DROP" = some (some (.str "drop" tk2)))
    (z0 : PySem.W.nsIn K mainGlobals "len" = some none)
    (z1 : PySem.W.nsIn K mainGlobals "isinstance" = some none)
    (z2 : PySem.W.nsIn K mainGlobals "str" = some none)
    (z3 : PySem.W.nsIn K mainGlobals "all" = some none)
    (z4 : PySem.W.nsIn K mainGlobals "enumerate" = some none)
    (z5 : PySem.W.nsIn K mainGlobals "range" = some none)
    (z6 : PySem.W.nsIn K mainGlobals "bool" = some none)
    (z7 : PySem.W.nsIn K mainGlobals "tuple" = some none)
    (z8 : PySem.W.nsIn K mainGlobals "dict" = some none)
    (z9 : PySem.W.nsIn K mainGlobals "list" = some none)
    (z10 : PySem.W.nsIn K mainGlobals "sorted" = some none)
    (z11 : PySem.W.nsIn K mainGlobals "set" = some none)
    (z12 : PySem.W.nsIn K mainGlobals "zip" = some none)
    (z13 : PySem.W.nsIn K mainGlobals "int" = some none)
    (z14 : PySem.W.nsIn K mainGlobals "min" = some none)
    (z15 : PySem.W.nsIn K mainGlobals "repr" = some none)
    (z16 : PySem.W.nsIn K mainGlobals "ValueError" = some none)
    (z17 : PySem.W.nsIn K mainGlobals "super" = some none)
    (aN : PySem.W.nsIn K mainGlobals "NewError" = some (some (.ref CN)))
    (bN : PySem.W.subIn K (.ref CN) (.type "BaseException") = some true)
    (iN : PySem.W.isClsIn K CN = true)
    (tN : PySem.W.typeIn K (.ref CN) = some (.type "type"))
    (on : PySem.W.specialIn K (.builtin "object.__class__") "__get__" = some (some (.builtin "getset_descriptor.__get__")))
    (ot : PySem.W.takesIn K (.builtin "object.__class__") = some true)
    (ea0 : PySem.W.nsIn K mainGlobals "NoName" = some (some (.ref E0)))
    (ea1 : PySem.W.nsIn K mainGlobals "Twice" = some (some (.ref E1)))
    (ea2 : PySem.W.nsIn K mainGlobals "Missing" = some (some (.ref E2)))
    (ea3 : PySem.W.nsIn K mainGlobals "Held" = some (some (.ref E3)))
    (ea5 : PySem.W.nsIn K mainGlobals "NoSpare" = some (some (.ref E5)))
    (eg0 : PySem.W.findIn K (.ref E0) "__getattribute__" = some (some (.builtin "BaseException.__getattribute__")))
    (et0 : PySem.W.findIn K (.ref E0) "__getattr__" = some none)
    (eb0 : PySem.W.subIn K (.ref E0) (.type "BaseException") = some true)
    (eh0 : PySem.W.hasDictIn K E0 = true)
    (ec0 : PySem.W.findIn K (.ref E0) "__class__" = some (some (.builtin "object.__class__")))
    (em0 : PySem.W.mroIn K E0 (.type "object") = some true)
    (es0 : PySem.W.subIn K (.ref E0) (.ref CN) = some true)
    (ev0 : PySem.W.kitOne K (.ref E0) (.type "ValueError") = some true)
    (ey0 : PySem.W.typeIn K (.ref E0) = some (.type "type"))
    (ekp0 : PySem.W.keepIn K (.ref E0) = true)
    (e0_0 : PySem.W.kitOne K (.ref E0) (.ref E0) = some true)
    (e0_1 : PySem.W.kitOne K (.ref E0) (.ref E1) = some false)
    (e0_2 : PySem.W.kitOne K (.ref E0) (.ref E2) = some false)
    (e0_3 : PySem.W.kitOne K (.ref E0) (.ref E3) = some false)
    (e0_5 : PySem.W.kitOne K (.ref E0) (.ref E5) = some false)
    (eg1 : PySem.W.findIn K (.ref E1) "__getattribute__" = some (some (.builtin "BaseException.__getattribute__")))
    (et1 : PySem.W.findIn K (.ref E1) "__getattr__" = some none)
    (eb1 : PySem.W.subIn K (.ref E1) (.type "BaseException") = some true)
    (eh1 : PySem.W.hasDictIn K E1 = true)
    (ec1 : PySem.W.findIn K (.ref E1) "__class__" = some (some (.builtin "object.__class__")))
    (em1 : PySem.W.mroIn K E1 (.type "object") = some true)
    (es1 : PySem.W.subIn K (.ref E1) (.ref CN) = some true)
    (ev1 : PySem.W.kitOne K (.ref E1) (.type "ValueError") = some true)
    (ey1 : PySem.W.typeIn K (.ref E1) = some (.type "type"))
    (ekp1 : PySem.W.keepIn K (.ref E1) = true)
    (e1_0 : PySem.W.kitOne K (.ref E1) (.ref E0) = some false)
    (e1_1 : PySem.W.kitOne K (.ref E1) (.ref E1) = some true)
    (e1_2 : PySem.W.kitOne K (.ref E1) (.ref E2) = some false)
    (e1_3 : PySem.W.kitOne K (.ref E1) (.ref E3) = some false)
    (e1_5 : PySem.W.kitOne K (.ref E1) (.ref E5) = some false)
    (ef_1 : PySem.W.findIn K (.ref E1) "name" = some none)
    (eg2 : PySem.W.findIn K (.ref E2) "__getattribute__" = some (some (.builtin "BaseException.__getattribute__")))
    (et2 : PySem.W.findIn K (.ref E2) "__getattr__" = some none)
    (eb2 : PySem.W.subIn K (.ref E2) (.type "BaseException") = some true)
    (eh2 : PySem.W.hasDictIn K E2 = true)
    (ec2 : PySem.W.findIn K (.ref E2) "__class__" = some (some (.builtin "object.__class__")))
    (em2 : PySem.W.mroIn K E2 (.type "object") = some true)
    (es2 : PySem.W.subIn K (.ref E2) (.ref CN) = some true)
    (ev2 : PySem.W.kitOne K (.ref E2) (.type "ValueError") = some true)
    (ey2 : PySem.W.typeIn K (.ref E2) = some (.type "type"))
    (ekp2 : PySem.W.keepIn K (.ref E2) = true)
    (e2_0 : PySem.W.kitOne K (.ref E2) (.ref E0) = some false)
    (e2_1 : PySem.W.kitOne K (.ref E2) (.ref E1) = some false)
    (e2_2 : PySem.W.kitOne K (.ref E2) (.ref E2) = some true)
    (e2_3 : PySem.W.kitOne K (.ref E2) (.ref E3) = some false)
    (e2_5 : PySem.W.kitOne K (.ref E2) (.ref E5) = some false)
    (ef_2 : PySem.W.findIn K (.ref E2) "name" = some none)
    (eg3 : PySem.W.findIn K (.ref E3) "__getattribute__" = some (some (.builtin "BaseException.__getattribute__")))
    (et3 : PySem.W.findIn K (.ref E3) "__getattr__" = some none)
    (eb3 : PySem.W.subIn K (.ref E3) (.type "BaseException") = some true)
    (eh3 : PySem.W.hasDictIn K E3 = true)
    (ec3 : PySem.W.findIn K (.ref E3) "__class__" = some (some (.builtin "object.__class__")))
    (em3 : PySem.W.mroIn K E3 (.type "object") = some true)
    (es3 : PySem.W.subIn K (.ref E3) (.ref CN) = some true)
    (ev3 : PySem.W.kitOne K (.ref E3) (.type "ValueError") = some true)
    (ey3 : PySem.W.typeIn K (.ref E3) = some (.type "type"))
    (ekp3 : PySem.W.keepIn K (.ref E3) = true)
    (e3_0 : PySem.W.kitOne K (.ref E3) (.ref E0) = some false)
    (e3_1 : PySem.W.kitOne K (.ref E3) (.ref E1) = some false)
    (e3_2 : PySem.W.kitOne K (.ref E3) (.ref E2) = some false)
    (e3_3 : PySem.W.kitOne K (.ref E3) (.ref E3) = some true)
    (e3_5 : PySem.W.kitOne K (.ref E3) (.ref E5) = some false)
    (ef_3 : PySem.W.findIn K (.ref E3) "name" = some none)
    (eg5 : PySem.W.findIn K (.ref E5) "__getattribute__" = some (some (.builtin "BaseException.__getattribute__")))
    (et5 : PySem.W.findIn K (.ref E5) "__getattr__" = some none)
    (eb5 : PySem.W.subIn K (.ref E5) (.type "BaseException") = some true)
    (eh5 : PySem.W.hasDictIn K E5 = true)
    (ec5 : PySem.W.findIn K (.ref E5) "__class__" = some (some (.builtin "object.__class__")))
    (em5 : PySem.W.mroIn K E5 (.type "object") = some true)
    (es5 : PySem.W.subIn K (.ref E5) (.ref CN) = some true)
    (ev5 : PySem.W.kitOne K (.ref E5) (.type "ValueError") = some true)
    (ey5 : PySem.W.typeIn K (.ref E5) = some (.type "type"))
    (ekp5 : PySem.W.keepIn K (.ref E5) = true)
    (e5_0 : PySem.W.kitOne K (.ref E5) (.ref E0) = some false)
    (e5_1 : PySem.W.kitOne K (.ref E5) (.ref E1) = some false)
    (e5_2 : PySem.W.kitOne K (.ref E5) (.ref E2) = some false)
    (e5_3 : PySem.W.kitOne K (.ref E5) (.ref E3) = some false)
    (e5_5 : PySem.W.kitOne K (.ref E5) (.ref E5) = some true)
    (ef_5 : PySem.W.findIn K (.ref E5) "ring" = some none)
    (ex0 : PySem.W.excIn K E0 [.type "ValueError", .type "Exception", .type "BaseException", .type "object"] "ValueError.__new__" = true)
    (htop : (l.prog.main.scope.names.lookup ("super" : Str)).isSome = false)
    (hsta : PySem.W.nsIn K PySem.cStatics "thirdparty.any" = some none)
    (xl2 : K.lookup E2 = some (excClassObj en2 eq2 E2 eN2 ebs2 (.ref CN :: [.type "ValueError", .type "Exception", .type "BaseException", .type "object"]) true esn2 esub2 eab2 ecol2 edd2 ek0_2 ek1_2 ek2_2 ek3_2 ek5_2 "ValueError.__new__"))
    (xs2 : PySem.W.findIn K (.ref E2) "__setattr__" = some (some (.builtin "object.__setattr__")))
    (xi2 : PySem.W.findIn K (.ref E2) "__init__" = some (some (.ref ef2)))
    (xt2 : PySem.W.typeIn K (.ref ef2) = some (.type "function"))
    (xu2 : PySem.W.ks_superIn K E2 E2 "__init__" = some (some (.builtin "ValueError.__init__")))
    (xm2 : PySem.W.mroIn K E2 (.ref E2) = some true)
    (xv2 : PySem.W.subIn K (.ref E2) (.type "ValueError") = some true)
    (xf2 : K.lookup ef2 = some ⟨eoc2, eod2, .func (PySem.W.fnX "__init__" "Missing.__init__" (defArgs sMissing___init__) (defBody sMissing___init__) (defScope sMissing___init__) [("__class__", ecc2)] .none ekV2 edc2 epm2 ean2 (.ref ecda2) ect2), esl2⟩)
    (xc2 : PySem.W.codeIn K (.ref ecda2) "Missing.__init__" = true)
    (xk2 : PySem.W.keepIn K (.ref ef2) = true)
    (xd2 : K.lookup ecda2 = some ⟨eccl2, ecdd2, .fields evs2, eccs2⟩)
    (xe2 : evs2[2]? = some (.str efile2 etf2))
    (xg2 : ((l.prog.main.file : Str) == efile2) = true)
    (xh2 : K.lookup ecc2 = some ⟨ecl2, ecld2, .cell (some (.ref E2)), ecsl2⟩)
    (xl3 : K.lookup E3 = some (excClassObj en3 eq3 E3 eN3 ebs3 (.ref CN :: [.type "ValueError", .type "Exception", .type "BaseException", .type "object"]) true esn3 esub3 eab3 ecol3 edd3 ek0_3 ek1_3 ek2_3 ek3_3 ek5_3 "ValueError.__new__"))
    (xs3 : PySem.W.findIn K (.ref E3) "__setattr__" = some (some (.builtin "object.__setattr__")))
    (xi3 : PySem.W.findIn K (.ref E3) "__init__" = some (some (.ref ef3)))
    (xt3 : PySem.W.typeIn K (.ref ef3) = some (.type "function"))
    (xu3 : PySem.W.ks_superIn K E3 E3 "__init__" = some (some (.builtin "ValueError.__init__")))
    (xm3 : PySem.W.mroIn K E3 (.ref E3) = some true)
    (xv3 : PySem.W.subIn K (.ref E3) (.type "ValueError") = some true)
    (xf3 : K.lookup ef3 = some ⟨eoc3, eod3, .func (PySem.W.fnX "__init__" "Held.__init__" (defArgs sHeld___init__) (defBody sHeld___init__) (defScope sHeld___init__) [("__class__", ecc3)] .none ekV3 edc3 epm3 ean3 (.ref ecda3) ect3), esl3⟩)
    (xc3 : PySem.W.codeIn K (.ref ecda3) "Held.__init__" = true)
    (xk3 : PySem.W.keepIn K (.ref ef3) = true)
    (xd3 : K.lookup ecda3 = some ⟨eccl3, ecdd3, .fields evs3, eccs3⟩)
    (xe3 : evs3[2]? = some (.str efile3 etf3))
    (xg3 : ((l.prog.main.file : Str) == efile3) = true)
    (xh3 : K.lookup ecc3 = some ⟨ecl3, ecld3, .cell (some (.ref E3)), ecsl3⟩)
    (xl5 : K.lookup E5 = some (excClassObj en5 eq5 E5 eN5 ebs5 (.ref CN :: [.type "ValueError", .type "Exception", .type "BaseException", .type "object"]) true esn5 esub5 eab5 ecol5 edd5 ek0_5 ek1_5 ek2_5 ek3_5 ek5_5 "ValueError.__new__"))
    (xs5 : PySem.W.findIn K (.ref E5) "__setattr__" = some (some (.builtin "object.__setattr__")))
    (xi5 : PySem.W.findIn K (.ref E5) "__init__" = some (some (.ref ef5)))
    (xt5 : PySem.W.typeIn K (.ref ef5) = some (.type "function"))
    (xu5 : PySem.W.ks_superIn K E5 E5 "__init__" = some (some (.builtin "ValueError.__init__")))
    (xm5 : PySem.W.mroIn K E5 (.ref E5) = some true)
    (xv5 : PySem.W.subIn K (.ref E5) (.type "ValueError") = some true)
    (xf5 : K.lookup ef5 = some ⟨eoc5, eod5, .func (PySem.W.fnX "__init__" "NoSpare.__init__" (defArgs sNoSpare___init__) (defBody sNoSpare___init__) (defScope sNoSpare___init__) [("__class__", ecc5)] .none ekV5 edc5 epm5 ean5 (.ref ecda5) ect5), esl5⟩)
    (xc5 : PySem.W.codeIn K (.ref ecda5) "NoSpare.__init__" = true)
    (xk5 : PySem.W.keepIn K (.ref ef5) = true)
    (xd5 : K.lookup ecda5 = some ⟨eccl5, ecdd5, .fields evs5, eccs5⟩)
    (xe5 : evs5[2]? = some (.str efile5 etf5))
    (xg5 : ((l.prog.main.file : Str) == efile5) = true)
    (xh5 : K.lookup ecc5 = some ⟨ecl5, ecld5, .cell (some (.ref E5)), ecsl5⟩)
    : ∃ fd : FuncData, (∀ (s : Shared) (v : Value), BindsTo s fd ⟨[v], []⟩ [("_law_script", v)]) ∧ ∀ base : Heap, K.In base → base.Ns mainGlobals mg → FnOk l.prog w K mg base CX0 5 fa fd ["_law_script"] (spLaw K) := by
  have e := hfa.symm.trans (PySem.W.mg_of X G a16)
  cases e
  have B : Blt mg := blt_mk X G z0 z1 z2 z3 z4 z5 z6 z7 z8 z9 z10 z11 z12 z13 z14 z15 z16 z17
  have F0 := fun_mk (st := sis_name) l0 c0 k0
  have b0 := F0.binds (ps := ["thing"]) fun _ _ _ _ _ _ us hl => match us, hl with | [_], _ => rfl
  have m0 := PySem.W.mg_of X G a0
  have F1 := fun_mk (st := scheck_name) l1 c1 k1
  have b1 := F1.binds (ps := ["thing"]) fun _ _ _ _ _ _ us hl => match us, hl with | [_], _ => rfl
  have m1 := PySem.W.mg_of X G a1
  have F2 := fun_mk (st := sfits) l2 c2 k2
  have b2 := F2.binds (ps := ["plan", "names"]) fun _ _ _ _ _ _ us hl => match us, hl with | [_, _], _ => rfl
  have m2 := PySem.W.mg_of X G a2
  have F3 : FunD K "deeds" "deeds" (defArgs sdeeds) (defBody sdeeds) (defScope sdeeds) [.non] [] f3 _ := ⟨⟨oc3, od3, .ref dT3, kV3, dc3, pm3, an3, cd3, ct3, sl3, rfl, l3, c3, .inr ⟨by simp, dT3, _, [.none], _, rfl, dl3, rfl, .cons rfl .nil⟩, .inl rfl⟩, k3⟩
  obtain ⟨ds3, dv3, b3⟩ := F3.binds1 (ps := ["plan", "names", "spare"]) 3 1 (by simp) rfl (fun T kV doc pm an cdv ct us its h1 h2 => match us, its, h1, h2 with | [_, _, _], [_], _, _ => ⟨_, rfl, rfl⟩)
  cases dv3
  obtain ⟨dsd3, dvd3, bd3⟩ := F3.binds1 (ps := ["plan", "names", "spare"]) 2 0 (by simp) rfl (fun T kV doc pm an cdv ct us its h1 h2 => match us, its, h1, h2 with | [_, _], [_], _, _ => ⟨_, rfl, rfl⟩)
  have m3 := PySem.W.mg_of X G a3
  have F4 := fun_mk (st := s_check_no_rings) l4 c4 k4
  have b4 := F4.binds (ps := ["plan"]) fun _ _ _ _ _ _ us hl => match us, hl with | [_], _ => rfl
  have m4 := PySem.W.mg_of X G a4
  have F5 := fun_mk (st := s_check_spare) l5 c5 k5
  have b5 := F5.binds (ps := ["spare", "plan", "names"]) fun _ _ _ _ _ _ us hl => match us, hl with | [_, _, _], _ => rfl
  have m5 := PySem.W.mg_of X G a5
  have F6 := fun_mk (st := sdeeds_over) l6 c6 k6
  have b6 := F6.binds (ps := ["plan", "spare"]) fun _ _ _ _ _ _ us hl => match us, hl with | [_, _], _ => rfl
  have m6 := PySem.W.mg_of X G a6
  have F7 := fun_mk (st := s_chain_deeds) l7 c7 k7
  have b7 := F7.binds (ps := ["plan"]) fun _ _ _ _ _ _ us hl => match us, hl with | [_], _ => rfl
  have m7 := PySem.W.mg_of X G a7
  have F8 := fun_mk (st := s_moves_up) l8 c8 k8
  have b8 := F8.binds (ps := ["free", "comers"]) fun _ _ _ _ _ _ us hl => match us, hl with | [_, _], _ => rfl
  have m8 := PySem.W.mg_of X G a8
  have F9 := fun_mk (st := s_ring_deeds) l9 c9 k9
  have b9 := F9.binds (ps := ["ring", "spare"]) fun _ _ _ _ _ _ us hl => match us, hl with | [_, _], _ => rfl
  have m9 := PySem.W.mg_of X G a9
  have F10 := fun_mk (st := s_law_state) l10 c10 k10
  have b10 := F10.binds (ps := ["_law_cell", "_law_k"]) fun _ _ _ _ _ _ us hl => match us, hl with | [_, _], _ => rfl
  have m10 := PySem.W.mg_of X G a10
  have F11 := fun_mk (st := s_law_next) l11 c11 k11
  have b11 := F11.binds (ps := ["_law_state_here", "_law_size"]) fun _ _ _ _ _ _ us hl => match us, hl with | [_, _], _ => rfl
  have m11 := PySem.W.mg_of X G a11
  have F12 := fun_mk (st := s_law_turned) l12 c12 k12
  have b12 := F12.binds (ps := ["_law_state_here", "_law_things"]) fun _ _ _ _ _ _ us hl => match us, hl with | [_, _], _ => rfl
  have m12 := PySem.W.mg_of X G a12
  have F13 := fun_mk (st := s_law_small_pairs) l13 c13 k13
  have b13 := F13.binds (ps := ["_law_state_here", "_law_held"]) fun _ _ _ _ _ _ us hl => match us, hl with | [_, _], _ => rfl
  have m13 := PySem.W.mg_of X G a13
  have F14 := fun_mk (st := s_law_further) l14 c14 k14
  have b14 := F14.binds (ps := ["_law_places", "_law_names", "_law_goals"]) fun _ _ _ _ _ _ us hl => match us, hl with | [_, _, _], _ => rfl
  have m14 := PySem.W.mg_of X G a14
  have F15 := fun_mk (st := s_law_fewest) l15 c15 k15
  have b15 := F15.binds (ps := ["_law_begin", "_law_goals", "_law_names"]) fun _ _ _ _ _ _ us hl => match us, hl with | [_, _, _], _ => rfl
  have m15 := PySem.W.mg_of X G a15
  have F16 := fun_mk (st := slaw) l16 c16 k16
  have gc0 : ∃ t, mg "LONGEST" = some (.int 8 t) := ⟨_, PySem.W.mg_of X G kc0⟩
  have gc1 : ∃ t, mg "MOVE" = some (.str "move" t) := ⟨_, PySem.W.mg_of X G kc1⟩
  have gc2 : ∃ t, mg "DROP" = some (.str "drop" t) := ⟨_, PySem.W.mg_of X G kc2⟩
  have gC0 := PySem.W.mg_of X G ac0
  have cls0 : Cls K C0 := ⟨pg0, hd0, po0, sa0⟩
  have F0_0 := fun_mk (st := sPlan___init__) ml0_0 mc0_0 mp0_0
  have B0_0 := F0_0.binds (ps := ["self", "pairs"]) fun _ _ _ _ _ _ us hl => match us, hl with | [_, _], _ => rfl
  have mk0_ : Mk K C0 mf0_0 := ⟨mk0, ma0_0, mi0_0, kk0⟩
  have F0_1 := fun_mk (st := sPlan_pairs) ml0_1 mc0_1 mp0_1
  have B0_1 := F0_1.binds (ps := ["self"]) fun _ _ _ _ _ _ us hl => match us, hl with | [_], _ => rfl
  have me0_1 : Meth K C0 "pairs" mf0_1 := ⟨ma0_1, mi0_1, mp0_1⟩
  have F0_2 := fun_mk (st := sPlan_olds) ml0_2 mc0_2 mp0_2
  have B0_2 := F0_2.binds (ps := ["self"]) fun _ _ _ _ _ _ us hl => match us, hl with | [_], _ => rfl
  have me0_2 : Meth K C0 "olds" mf0_2 := ⟨ma0_2, mi0_2, mp0_2⟩
  have F0_3 := fun_mk (st := sPlan_news) ml0_3 mc0_3 mp0_3
  have B0_3 := F0_3.binds (ps := ["self"]) fun _ _ _ _ _ _ us hl => match us, hl with | [_], _ => rfl
  have me0_3 : Meth K C0 "news" mf0_3 := ⟨ma0_3, mi0_3, mp0_3⟩
  have F0_4 := fun_mk (st := sPlan_rings) ml0_4 mc0_4 mp0_4
  have B0_4 := F0_4.binds (ps := ["self"]) fun _ _ _ _ _ _ us hl => match us, hl with | [_], _ => rfl
  have me0_4 : Meth K C0 "rings" mf0_4 := ⟨ma0_4, mi0_4, mp0_4⟩
  let Cs : ErrCs := ⟨E0, E1, E2, E3, E0, E5, E0⟩
  have Ex0 : ExcC K E0 := ⟨eg0, et0, eb0, eh0, ec0, on, ot, em0⟩
  have Ex1 : ExcC K E1 := ⟨eg1, et1, eb1, eh1, ec1, on, ot, em1⟩
  have Ex2 : ExcC K E2 := ⟨eg2, et2, eb2, eh2, ec2, on, ot, em2⟩
  have Ex3 : ExcC K E3 := ⟨eg3, et3, eb3, eh3, ec3, on, ot, em3⟩
  have Ex5 : ExcC K E5 := ⟨eg5, et5, eb5, eh5, ec5, on, ot, em5⟩
  have RNoName : NoNameC K mg "NoName" Cs.name := ⟨ex0, PySem.W.mg_of X G ea0, ekp0, eb0, ey0⟩
  refine ⟨PySem.W.fnOf "law" "law" (defArgs slaw) (defBody slaw) (defScope slaw) .none kV16 dc16 pm16 an16 cd16 ct16, fun s v => .of_eq rfl, fun base _ _ => ?_⟩
  have SC2 : SupC K E2 := ⟨⟨⟨_, _, _, _, _, _, _, _, _, _, _, _, _, _, _, xl2, by rfl⟩, xs2, eb2, ey2, ekp2⟩, xu2, xm2, xv2, hsta⟩
  have SF2 : SFun l.prog K E2 "__init__" "Missing.__init__" sMissing___init__ ef2 _ := ⟨⟨_, _, _, _, _, _, _, _, _, _, _, _, _, _, _, _, _, _, _, rfl, xf2, xc2, xd2, xe2, xg2, xh2⟩, xk2⟩
  have FX2 : FnOk l.prog w K mg base CX0 1 ef2 _ ["self", "name"] (spErr E2 "name" okT) := (sup_ok (k := 0) (N := ["self", "name", "__class__"]) SF2 SC2 (NdefX.nscope_by (by decide +kernel)) B.super ef_2 rfl (fun A outer s H E cc cda hr => (pe_joined (PJ.cons pe_str (PJ.cons (pe_fmt (pv 1)) PJ.nil)))) (fun _ => rfl) rfl rfl htop rfl rfl rfl rfl (by decide) (by decide) (fun _ => rfl) (fun env h => int_of h rfl) (fun _ => rfl)).imp fun _ _ _ _ => sup_cn (by decide +kernel) "name"
  have RMissing : ErrMk l.prog w K mg base 1 "Missing" E2 "name" okT := ⟨_, _, _, SC2.own, xi2, xt2, FX2, SF2.binds (fun _ _ _ _ _ _ _ us hl => match us, hl with | [_, _], _ => rfl), PySem.W.mg_of X G ea2⟩
  have SC3 : SupC K E3 := ⟨⟨⟨_, _, _, _, _, _, _, _, _, _, _, _, _, _, _, xl3, by rfl⟩, xs3, eb3, ey3, ekp3⟩, xu3, xm3, xv3, hsta⟩
  have SF3 : SFun l.prog K E3 "__init__" "Held.__init__" sHeld___init__ ef3 _ := ⟨⟨_, _, _, _, _, _, _, _, _, _, _, _, _, _, _, _, _, _, _, rfl, xf3, xc3, xd3, xe3, xg3, xh3⟩, xk3⟩
  have FX3 : FnOk l.prog w K mg base CX0 1 ef3 _ ["self", "name"] (spErr E3 "name" okT) := (sup_ok (k := 0) (N := ["self", "name", "__class__"]) SF3 SC3 (NdefX.nscope_by (by decide +kernel)) B.super ef_3 rfl (fun A outer s H E cc cda hr => (pe_joined (PJ.cons (pe_fmt (pv 1)) (PJ.cons pe_str PJ.nil)))) (fun _ => rfl) rfl rfl htop rfl rfl rfl rfl (by decide) (by decide) (fun _ => rfl) (fun env h => int_of h rfl) (fun _ => rfl)).imp fun _ _ _ _ => sup_nc (by decide +kernel) "name"
  have RHeld : ErrMk l.prog w K mg base 1 "Held" E3 "name" okT := ⟨_, _, _, SC3.own, xi3, xt3, FX3, SF3.binds (fun _ _ _ _ _ _ _ us hl => match us, hl with | [_, _], _ => rfl), PySem.W.mg_of X G ea3⟩
  have SC5 : SupC K E5 := ⟨⟨⟨_, _, _, _, _, _, _, _, _, _, _, _, _, _, _, xl5, by rfl⟩, xs5, eb5, ey5, ekp5⟩, xu5, xm5, xv5, hsta⟩
  have SF5 : SFun l.prog K E5 "__init__" "NoSpare.__init__" sNoSpare___init__ ef5 _ := ⟨⟨_, _, _, _, _, _, _, _, _, _, _, _, _, _, _, _, _, _, _, rfl, xf5, xc5, xd5, xe5, xg5, xh5⟩, xk5⟩
  have FX5 : FnOk l.prog w K mg base CX0 1 ef5 _ ["self", "ring"] (spErr E5 "ring" (okR K)) := (sup_ok (k := 0) (N := ["self", "ring", "__class__"]) SF5 SC5 (NdefX.nscope_by (by decide +kernel)) B.super ef_5 rfl (fun A outer s H E cc cda hr => (pe_joined (PJ.cons pe_str (PJ.cons (pe_fmtT hr (pv 1)) PJ.nil)))) (fun _ => rfl) rfl rfl htop rfl rfl rfl rfl (by decide) (by decide) (fun _ => rfl) (fun env h => int_of h rfl) (fun _ => rfl)).imp fun _ _ _ _ => sup_cR (by decide +kernel) "ring"
  have RNoSpare : ErrMk l.prog w K mg base 1 "NoSpare" E5 "ring" (okR K) := ⟨_, _, _, SC5.own, xi5, xt5, FX5, SF5.binds (fun _ _ _ _ _ _ _ us hl => match us, hl with | [_, _], _ => rfl), PySem.W.mg_of X G ea5⟩
  have T : PlanC K C0 := ⟨cls0, na0_0⟩
  have GI := ok_is_name (P := l.prog) (w := w) (K := K) (mg := mg) (base := base) F0 B gc0
  have c_is_name : Cl l.prog w K mg base 1 "is_name" (spIsName K) := ⟨_, _, _, GI, m0, k0, b0⟩
  have c_check_name : ClX l.prog w K mg base 2 "check_name" (spCheckX Cs) := ⟨_, _, _, ok_check_name F1 ⟨c_is_name⟩ ⟨RNoName⟩, m1, k1, b1⟩
  have p_init : Mr l.prog w K mg base 3 "Plan" C0 (spInit C0) := ⟨_, _, _, mk0_, ok_Plan___init__ F0_0 B ⟨checkN9 c_check_name⟩ T, gC0, B0_0⟩
  have p_pairs : Mt l.prog w K mg base 1 C0 "pairs" (spPairsM C0) := ⟨_, _, _, cls0, me0_1, ok_Plan_pairs F0_1 B T, B0_1⟩
  have p_olds : Mt l.prog w K mg base 1 C0 "olds" (spOldsM C0) := ⟨_, _, _, cls0, me0_2, ok_Plan_olds F0_2 B T, B0_2⟩
  have p_news : Mt l.prog w K mg base 1 C0 "news" (spNewsM C0) := ⟨_, _, _, cls0, me0_3, ok_Plan_news F0_3 B T, B0_3⟩
  have p_rings : Mt l.prog w K mg base 1 C0 "rings" (spRings C0) := ⟨_, _, _, cls0, me0_4, ok_Plan_rings F0_4 B T, B0_4⟩
  have c_fits : ClX l.prog w K mg base 3 "fits" (spFits K C0 Cs) := ⟨_, _, _, ok_fits F2 B ⟨p_olds, p_news⟩ ⟨RMissing, RHeld⟩, m2, k2, b2⟩
  have c_moves_up : Cl l.prog w K mg base 1 "_moves_up" spUp := ⟨_, _, _, ok__moves_up F8 B gc1, m8, k8, b8⟩
  have c_ring_deeds : Cl l.prog w K mg base 1 "_ring_deeds" (spRing K) := ⟨_, _, _, ok__ring_deeds F9 B gc1, m9, k9, b9⟩
  have c_chain_deeds : Cl l.prog w K mg base 2 "_chain_deeds" (spChain C0) := ⟨_, _, _, ok__chain_deeds F7 B gc2 ⟨c_moves_up⟩ ⟨p_olds, p_pairs⟩, m7, k7, b7⟩
  have c_deeds_over : Cl l.prog w K mg base 3 "deeds_over" (spOver C0) := ⟨_, _, _, ok_deeds_over F6 B ⟨c_chain_deeds, c_ring_deeds⟩ ⟨p_rings⟩, m6, k6, b6⟩
  have c_check_no_rings : ClX l.prog w K mg base 3 "_check_no_rings" (spNoRings C0 Cs) := ⟨_, _, _, ok__check_no_rings F4 B ⟨p_rings⟩ ⟨RNoSpare, RHeld⟩, m4, k4, b4⟩
  have c_check_spare : ClX l.prog w K mg base 3 "_check_spare" (spSpare K C0 Cs) := ⟨_, _, _, ok__check_spare F5 B ⟨c_check_name⟩ ⟨p_news⟩ ⟨RNoSpare, RHeld⟩, m5, k5, b5⟩
  have FD := (Nn.noX (ok_deeds F3 B ⟨c_fits, c_check_no_rings, c_check_spare, c_deeds_over⟩)).imp deedsN
  have c_deeds : Cl l.prog w K mg base 4 "deeds" (spDeedsN K C0) := ⟨_, _, _, FD, m3, k3, b3⟩
  have c_law_state : Cl l.prog w K mg base 1 "_law_state" spState := ⟨_, _, _, ok__law_state F10, m10, k10, b10⟩
  have c_law_next : Cl l.prog w K mg base 1 "_law_next" spNext := ⟨_, _, _, ok__law_next F11, m11, k11, b11⟩
  have c1 : C1 l.prog w K mg base := ⟨c_law_next⟩
  have c_law_turned : Cl l.prog w K mg base 2 "_law_turned" (spTurned K) := ⟨_, _, _, ok__law_turned F12 B c1, m12, k12, b12⟩
  have c_law_small_pairs : Cl l.prog w K mg base 3 "_law_small_pairs" (spSmall K) := ⟨_, _, _, ok__law_small_pairs F13 B ⟨c_law_next, c_law_turned⟩, m13, k13, b13⟩
  have c_law_further : Cl l.prog w K mg base 1 "_law_further" (spFurther K) := ⟨_, _, _, ok__law_further F14 B, m14, k14, b14⟩
  have c_law_fewest : Cl l.prog w K mg base 2 "_law_fewest" (spFewest K) := ⟨_, _, _, ok__law_fewest F15 B ⟨c_law_further⟩, m15, k15, b15⟩
  exact ok_law F16 B ⟨c_law_state, c_law_next, c_law_small_pairs, c_deeds, c_law_fewest⟩ ⟨p_init⟩
end Nn
open PySem PySem.W PyProof.Rows
set_option maxRecDepth 100000 in
set_option maxHeartbeats 0 in
theorem PySem.Challenge.cw_newnames_k09_whole_no_fewer_holds : PySem.Challenge.rw_newnames_k09_whole_no_fewer.Holds := by
  w_on; o_law; k_head; (case hw => w_witness2)
  k_fill
  refine L2.walk_of (l := PySem.Challenge.rw_newnames_k09_whole_no_fewer) (n := 63) (k := 5) (x := "_law_script") (CX := fun _ => L2.CX0) (sp := fun w => Nn.spLaw _) rfl (by decide) rfl ⟨rfl, by decide, by decide⟩ (fun w h Y => PySem.W.kIn_of Y) ?F (fun _ _ a ns hl _ hS => ⟨a, ns, rfl, hS, hl, fun _ => rfl⟩) (fun _ _ _ _ _ h => h)
  case F =>
    intro w mg fa h KX G hmg
    refine' Nn.all_mk KX G hmg ?a0 ?l0 ?c0 ?k0 ?a1 ?l1 ?c1 ?k1 ?a2 ?l2 ?c2 ?k2 ?a3 ?l3 ?dl3 ?c3 ?k3 ?a4 ?l4 ?c4 ?k4 ?a5 ?l5 ?c5 ?k5 ?a6 ?l6 ?c6 ?k6 ?a7 ?l7 ?c7 ?k7 ?a8 ?l8 ?c8 ?k8 ?a9 ?l9 ?c9 ?k9 ?a10 ?l10 ?c10 ?k10 ?a11 ?l11 ?c11 ?k11 ?a12 ?l12 ?c12 ?k12 ?a13 ?l13 ?c13 ?k13 ?a14 ?l14 ?c14 ?k14 ?a15 ?l15 ?c15 ?k15 ?a16 ?l16 ?c16 ?k16 ?ac0 ?pg0 ?hd0 ?po0 ?sa0 ?kk0 ?mk0 ?na0_0 ?ma0_0 ?mi0_0 ?ml0_0 ?mc0_0 ?mp0_0 ?ma0_1 ?mi0_1 ?ml0_1 ?mc0_1 ?mp0_1 ?ma0_2 ?mi0_2 ?ml0_2 ?mc0_2 ?mp0_2 ?ma0_3 ?mi0_3 ?ml0_3 ?mc0_3 ?mp0_3 ?ma0_4 ?mi0_4 ?ml0_4 ?mc0_4 ?mp0_4 ?kc0 ?kc1 ?kc2 ?z0 ?z1 ?z2 ?z3 ?z4 ?z5 ?z6 ?z7 ?z8 ?z9 ?z10 ?z11 ?z12 ?z13 ?z14 ?z15 ?z16 ?z17 ?aN ?bN ?iN ?tN ?on ?ot ?ea0 ?ea1 ?ea2 ?ea3 ?ea5 ?eg0 ?et0 ?eb0 ?eh0 ?ec0 ?em0 ?es0 ?ev0 ?ey0 ?ekp0 ?e0_0 ?e0_1 ?e0_2 ?e0_3 ?e0_5 ?eg1 ?et1 ?eb1 ?eh1 ?ec1 ?em1 ?es1 ?ev1 ?ey1 ?ekp1 ?e1_0 ?e1_1 ?e1_2 ?e1_3 ?e1_5 ?ef_1 ?eg2 ?et2 ?eb2 ?eh2 ?ec2 ?em2 ?es2 ?ev2 ?ey2 ?ekp2 ?e2_0 ?e2_1 ?e2_2 ?e2_3 ?e2_5 ?ef_2 ?eg3 ?et3 ?eb3 ?eh3 ?ec3 ?em3 ?es3 ?ev3 ?ey3 ?ekp3 ?e3_0 ?e3_1 ?e3_2 ?e3_3 ?e3_5 ?ef_3 ?eg5 ?et5 ?eb5 ?eh5 ?ec5 ?em5 ?es5 ?ev5 ?ey5 ?ekp5 ?e5_0 ?e5_1 ?e5_2 ?e5_3 ?e5_5 ?ef_5 ?ex0 ?htop ?hsta ?xl2 ?xs2 ?xi2 ?xt2 ?xu2 ?xm2 ?xv2 ?xf2 ?xc2 ?xk2 ?xd2 ?xe2 ?xg2 ?xh2 ?xl3 ?xs3 ?xi3 ?xt3 ?xu3 ?xm3 ?xv3 ?xf3 ?xc3 ?xk3 ?xd3 ?xe3 ?xg3 ?xh3 ?xl5 ?xs5 ?xi5 ?xt5 ?xu5 ?xm5 ?xv5 ?xf5 ?xc5 ?xk5 ?xd5 ?xe5 ?xg5 ?xh5
    (case a0 => k_is)
    (case l0 => k_is)
    (case c0 => k_is)
    (case k0 => k_is)
    (case a1 => k_is)
    (case l1 => k_is)
    (case c1 => k_is)
    (case k1 => k_is)
    (case a2 => k_is)
    (case l2 => k_is)
    (case c2 => k_is)
    (case k2 => k_is)
    (case a3 => k_is)
    (case l3 => k_is)
    (case dl3 => k_is)
    (case c3 => k_is)
    (case k3 => k_is)
    (case a4 => k_is)
    (case l4 => k_is)
    (case c4 => k_is)
    (case k4 => k_is)
    (case a5 => k_is)
    (case l5 => k_is)
    (case c5 => k_is)
    (case k5 => k_is)
    (case a6 => k_is)
    (case l6 => k_is)
    (case c6 => k_is)
    (case k6 => k_is)
    (case a7 => k_is)
    (case l7 => k_is)
    (case c7 => k_is)
    (case k7 => k_is)
    (case a8 => k_is)
    (case l8 => k_is)
    (case c8 => k_is)
    (case k8 => k_is)
    (case a9 => k_is)
    (case l9 => k_is)
    (case c9 => k_is)
    (case k9 => k_is)
    (case a10 => k_is)
    (case l10 => k_is)
    (case c10 => k_is)
    (case k10 => k_is)
    (case a11 => k_is)
    (case l11 => k_is)
    (case c11 => k_is)
    (case k11 => k_is)
    (case a12 => k_is)
    (case l12 => k_is)
    (case c12 => k_is)
    (case k12 => k_is)
    (case a13 => k_is)
    (case l13 => k_is)
    (case c13 => k_is)
    (case k13 => k_is)
    (case a14 => k_is)
    (case l14 => k_is)
    (case c14 => k_is)
    (case k14 => k_is)
    (case a15 => k_is)
    (case l15 => k_is)
    (case c15 => k_is)
    (case k15 => k_is)
    (case a16 => k_is)
    (case l16 => k_is)
    (case c16 => k_is)
    (case k16 => k_is)
    (case ac0 => k_is)
    (case pg0 => k_is)
    (case hd0 => k_is)
    (case po0 => k_is)
    (case sa0 => k_is)
    (case kk0 => k_is)
    (case mk0 => k_is)
    (case na0_0 => k_is)
    (case ma0_0 => k_is)
    (case mi0_0 => k_is)
    (case ml0_0 => k_is)
    (case mc0_0 => k_is)
    (case mp0_0 => k_is)
    (case ma0_1 => k_is)
    (case mi0_1 => k_is)
    (case ml0_1 => k_is)
    (case mc0_1 => k_is)
    (case mp0_1 => k_is)
    (case ma0_2 => k_is)
    (case mi0_2 => k_is)
    (case ml0_2 => k_is)
    (case mc0_2 => k_is)
    (case mp0_2 => k_is)
    (case ma0_3 => k_is)
    (case mi0_3 => k_is)
    (case ml0_3 => k_is)
    (case mc0_3 => k_is)
    (case mp0_3 => k_is)
    (case ma0_4 => k_is)
    (case mi0_4 => k_is)
    (case ml0_4 => k_is)
    (case mc0_4 => k_is)
    (case mp0_4 => k_is)
    (case kc0 => k_is)
    (case kc1 => k_is)
    (case kc2 => k_is)
    (case z0 => k_is)
    (case z1 => k_is)
    (case z2 => k_is)
    (case z3 => k_is)
    (case z4 => k_is)
    (case z5 => k_is)
    (case z6 => k_is)
    (case z7 => k_is)
    (case z8 => k_is)
    (case z9 => k_is)
    (case z10 => k_is)
    (case z11 => k_is)
    (case z12 => k_is)
    (case z13 => k_is)
    (case z14 => k_is)
    (case z15 => k_is)
    (case z16 => k_is)
    (case z17 => k_is)
    (case aN => k_is)
    (case bN => k_is)
    (case iN => k_is)
    (case tN => k_is)
    (case on => k_is)
    (case ot => k_is)
    (case ea0 => k_is)
    (case ea1 => k_is)
    (case ea2 => k_is)
    (case ea3 => k_is)
    (case ea5 => k_is)
    (case eg0 => k_is)
    (case et0 => k_is)
    (case eb0 => k_is)
    (case eh0 => k_is)
    (case ec0 => k_is)
    (case em0 => k_is)
    (case es0 => k_is)
    (case ev0 => kit_is)
    (case ey0 => k_is)
    (case ekp0 => k_is)
    (case e0_0 => kit_is)
    (case e0_1 => kit_is)
    (case e0_2 => kit_is)
    (case e0_3 => kit_is)
    (case e0_5 => kit_is)
    (case eg1 => k_is)
    (case et1 => k_is)
    (case eb1 => k_is)
    (case eh1 => k_is)
    (case ec1 => k_is)
    (case em1 => k_is)
    (case es1 => k_is)
    (case ev1 => kit_is)
    (case ey1 => k_is)
    (case ekp1 => k_is)
    (case e1_0 => kit_is)
    (case e1_1 => kit_is)
    (case e1_2 => kit_is)
    (case e1_3 => kit_is)
    (case e1_5 => kit_is)
    (case ef_1 => k_is)
    (case eg2 => k_is)
    (case et2 => k_is)
    (case eb2 => k_is)
    (case eh2 => k_is)
    (case ec2 => k_is)
    (case em2 => k_is)
    (case es2 => k_is)
    (case ev2 => kit_is)
    (case ey2 => k_is)
    (case ekp2 => k_is)
    (case e2_0 => kit_is)
    (case e2_1 => kit_is)
    (case e2_2 => kit_is)
    (case e2_3 => kit_is)
    (case e2_5 => kit_is)
    (case ef_2 => k_is)
    (case eg3 => k_is)
    (case et3 => k_is)
    (case eb3 => k_is)
    (case eh3 => k_is)
    (case ec3 => k_is)
    (case em3 => k_is)
    (case es3 => k_is)
    (case ev3 => kit_is)
    (case ey3 => k_is)
    (case ekp3 => k_is)
    (case e3_0 => kit_is)
    (case e3_1 => kit_is)
    (case e3_2 => kit_is)
    (case e3_3 => kit_is)
    (case e3_5 => kit_is)
    (case ef_3 => k_is)
    (case eg5 => k_is)
    (case et5 => k_is)
    (case eb5 => k_is)
    (case eh5 => k_is)
    (case ec5 => k_is)
    (case em5 => k_is)
    (case es5 => k_is)
    (case ev5 => kit_is)
    (case ey5 => k_is)
    (case ekp5 => k_is)
    (case e5_0 => kit_is)
    (case e5_1 => kit_is)
    (case e5_2 => kit_is)
    (case e5_3 => kit_is)
    (case e5_5 => kit_is)
    (case ef_5 => k_is)
    (case ex0 => first | k_is | kx_is | kernel_rfl)
    (case htop => first | rfl | decide +kernel)
    (case hsta => k_is)
    (case xl2 => k_is)
    (case xs2 => k_is)
    (case xi2 => k_is)
    (case xt2 => k_is)
    (case xu2 => ks_is)
    (case xm2 => k_is)
    (case xv2 => k_is)
    (case xf2 => k_is)
    (case xc2 => k_is)
    (case xk2 => k_is)
    (case xd2 => k_is)
    (case xe2 => rfl)
    (case xg2 => first | rfl | decide +kernel)
    (case xh2 => k_is)
    (case xl3 => k_is)
    (case xs3 => k_is)
    (case xi3 => k_is)
    (case xt3 => k_is)
    (case xu3 => ks_is)
    (case xm3 => k_is)
    (case xv3 => k_is)
    (case xf3 => k_is)
    (case xc3 => k_is)
    (case xk3 => k_is)
    (case xd3 => k_is)
    (case xe3 => rfl)
    (case xg3 => first | rfl | decide +kernel)
    (case xh3 => k_is)
    (case xl5 => k_is)
    (case xs5 => k_is)
    (case xi5 => k_is)
    (case xt5 => k_is)
    (case xu5 => ks_is)
    (case xm5 => k_is)
    (case xv5 => k_is)
    (case xf5 => k_is)
    (case xc5 => k_is)
    (case xk5 => k_is)
    (case xd5 => k_is)
    (case xe5 => rfl)
    (case xg5 => first | rfl | decide +kernel)
    (case xh5 => k_is)
