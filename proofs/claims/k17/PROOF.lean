import PyProof.Rows.All
import Wide.All
import OpenK.AllK
import Wide.FinOn
import HandS.ForMost
import HandS.IsInst
import HandS.TupLe
import HandS.TupAny
import HandS.Walk
import HandS.Flow
import HandS.Codes
import HandS.More
import HandS.Evl
import HandS.SetKeys
import HandS.NoneIn
import HandS.DictComp
import HandS.ListItems
import HandS.Zip
import HandS.ForExc
import HandS.WordsExc
import HandS.ExcField
import HandS.ExcIs
import HandS.ExcValue
import HandS.ExcSuper
import HandS.ExcInit
import HandS.ExcOwn
import KE.KExcIs
import HandS.Nested
import HandS.FStr
import HandS.FStrTup
import KE.KExcSuper
import HandS.SetFor
import HandS.Strs
import HandS.Defaults
import KE.RegKIsAll
import KE.RegKSuper
import PySem.Challenge.RW_newnames_k17_refusals_made
set_option Elab.async false
set_option linter.all false
set_option maxRecDepth 100000
set_option maxHeartbeats 4000000
namespace Nn
open PySem PySem.Spec PyProof.Rows L2

/-! ### the ledger: what a def's body knows of the heap -/
/-- M: addresses of the entry's heap H0 that the body may change; L: objects known now (new ones, and those of M); T: objects made since, that never change -/
structure At (M : List Addr) (H0 H : Hp) (L T : List (Addr × HO)) : Prop where
  base : ∀ a o, H0 a = some o → a ∉ M → H a = some o
  nd : (L.map Prod.fst).Nodup
  mem : ∀ e ∈ L, H e.1 = some e.2
  own : ∀ e ∈ L, H0 e.1 = none ∨ e.1 ∈ M
  mL : ∀ a ∈ M, a ∈ L.map Prod.fst
  tm : ∀ e ∈ T, H e.1 = some e.2
  td : ∀ e ∈ T, e.1 ∉ L.map Prod.fst
  tn : ∀ e ∈ T, H0 e.1 = none

/-- all but what stands in N is kept -/
def Kp (N : List Addr) (H H' : Hp) : Prop := ∀ a o, H a = some o → a ∉ N → H' a = some o
theorem Kp.refl {N : List Addr} (H : Hp) : Kp N H H := fun _ _ h _ => h
theorem Kp.same {H H' : Hp} (k : Kp [] H H') : Same H H' := fun a o h => k a o h (by simp)
theorem Kp.of {H H' : Hp} (k : Same H H') : Kp [] H H' := fun a o h _ => k a o h
theorem Kp.seq {K : PySem.W.Frag} {N : List Addr} {H H' : Hp} {a : Addr} {xs : List V} (k : Kp N H H') (h : SqL K H a xs) (hn : a ∉ N) : SqL K H' a xs := by
  rcases h with (h | ⟨o, h⟩) | h
  · exact .inl (.inl (k _ _ h hn))
  · exact .inl (.inr ⟨o, k _ _ h hn⟩)
  · exact .inr h
theorem Kp.sqt {K : PySem.W.Frag} {N : List Addr} {H H' : Hp} {a : Addr} {xs : List V} (k : Kp N H H') (h : SqT K H a xs) (hn : a ∉ N) : SqT K H' a xs := by
  rcases h with (h | ⟨o, h⟩) | h
  · exact .inl (.inl (k _ _ h hn))
  · exact .inl (.inr ⟨o, k _ _ h hn⟩)
  · exact .inr h
/-- one new object, not looked at again -/
def Sk (H H' : Hp) : Prop := H' = H ∨ ∃ p o, H p = none ∧ H' = upd H p o
theorem Sk.of {H : Hp} {p : Addr} {o : HO} (h : H p = none) : Sk H (upd H p o) := .inr ⟨p, o, h, rfl⟩
theorem Sk.rf {H : Hp} : Sk H H := .inl rfl

section
variable {M : List Addr} {H0 H H' : Hp} {L L' T N : List (Addr × HO)} {p : Addr} {o o' : HO} {i : Nat}
theorem At.nil (H : Hp) : At [] H H [] [] := ⟨fun _ _ h _ => h, List.nodup_nil, by simp, by simp, by simp, by simp, by simp, by simp⟩
theorem At.one (h : H p = some o) : At [p] H H [(p, o)] [] := ⟨fun _ _ h _ => h, by simp, by simpa using h, by simp, by simp, by simp, by simp, by simp⟩
theorem At.two {q : Addr} (h : H p = some o) (h' : H q = some o') (ne : p ≠ q) : At [p, q] H H [(p, o), (q, o')] [] :=
  ⟨fun _ _ h _ => h, by simpa using ne, by intro e he; simp only [List.mem_cons, List.not_mem_nil, or_false] at he; rcases he with rfl | rfl <;> assumption, by intro e he; simp only [List.mem_cons, List.not_mem_nil, or_false] at he; rcases he with rfl | rfl <;> simp, by simp, by simp, by simp, by simp⟩
theorem At.in (A : At M H0 H L T) (h : L[i]? = some (p, o)) : H p = some o := A.mem _ (List.mem_of_getElem? h)
theorem At.get (A : At M H0 H L T) (i : Nat) (h : L[i]? = some (p, o)) : H p = some o := A.in h
theorem At.keep (A : At M H0 H L T) : Kp M H0 H := A.base
theorem At.fresh (A : At M H0 H L T) (h : H p = none) : p ∉ L.map Prod.fst := fun hm => by
  obtain ⟨e, he, rfl⟩ := List.mem_map.mp hm
  rw [A.mem e he] at h
  cases h
theorem At.fresh0 (A : At M H0 H L T) (h : H p = none) : H0 p = none := by
  by_cases hM : p ∈ M
  · exact absurd (A.mL p hM) (A.fresh h)
  · cases e : H0 p with
    | none => rfl
    | some o =>
      rw [A.base p o e hM] at h
      cases h
theorem At.freshT (A : At M H0 H L T) (h : H p = none) : ∀ e ∈ T, e.1 ≠ p := fun e he q => by
  rw [← q, A.tm e he] at h
  cases h
/-- is new against the entry -/
theorem At.new0 (A : At M H0 H L T) (i : Nat) (h : L[i]? = some (p, o)) (hM : p ∉ M) : H0 p = none := (A.own _ (List.mem_of_getElem? h)).resolve_right hM
theorem At.skip (A : At M H0 H L T) (s : Sk H H') : At M H0 H' L T := by
  rcases s with rfl | ⟨p, o, h, rfl⟩
  · exact A
  · refine ⟨fun a u e hM => ?_, A.nd, fun e he => ?_, A.own, A.mL, fun e he => ?_, A.td, A.tn⟩
    · rw [upd_ne (ne_of_none (A.base a u e hM) h)]; exact A.base a u e hM
    · rw [upd_ne (ne_of_none (A.mem e he) h)]; exact A.mem e he
    · rw [upd_ne (ne_of_none (A.tm e he) h)]; exact A.tm e he
theorem At.snoc (A : At M H0 H L T) (h : H p = none) (o : HO) : At M H0 (upd H p o) (L ++ [(p, o)]) T := by
  have B := A.skip (Sk.of (o := o) h)
  have fr := A.fresh h
  refine ⟨B.base, ?_, ?_, ?_, ?_, B.tm, ?_, B.tn⟩
  · rw [List.map_append, List.nodup_append]
    refine ⟨A.nd, by simp, ?_⟩
    intro a ha b hb e
    rw [List.map_singleton, List.mem_singleton] at hb
    subst e; subst hb
    exact fr ha
  · intro e he
    rcases List.mem_append.mp he with he | he
    · exact B.mem e he
    · rw [List.mem_singleton] at he; subst he; exact upd_same
  · intro e he
    rcases List.mem_append.mp he with he | he
    · exact A.own e he
    · rw [List.mem_singleton] at he; subst he; exact .inl (A.fresh0 h)
  · intro a ha
    rw [List.map_append]
    exact List.mem_append_left _ (A.mL a ha)
  · intro e he
    rw [List.map_append, List.mem_append]
    rintro (q | q)
    · exact A.td e he q
    · rw [List.map_singleton, List.mem_singleton] at q; exact A.freshT h e he q
theorem At.snocT (A : At M H0 H L T) (h : H p = none) (o : HO) : At M H0 (upd H p o) L (T ++ [(p, o)]) := by
  have B := A.skip (Sk.of (o := o) h)
  refine ⟨B.base, A.nd, B.mem, A.own, A.mL, ?_, ?_, ?_⟩
  · intro e he
    rcases List.mem_append.mp he with he | he
    · exact B.tm e he
    · rw [List.mem_singleton] at he; subst he; exact upd_same
  · intro e he
    rcases List.mem_append.mp he with he | he
    · exact A.td e he
    · rw [List.mem_singleton] at he; subst he; exact A.fresh h
  · intro e he
    rcases List.mem_append.mp he with he | he
    · exact A.tn e he
    · rw [List.mem_singleton] at he; subst he; exact A.fresh0 h
theorem map_set_fst (L : List (Addr × HO)) (i : Nat) (h : L[i]? = some (p, o)) : (L.set i (p, o')).map Prod.fst = L.map Prod.fst := by
  rw [List.map_set]
  refine List.ext_getElem? fun j => ?_
  rw [List.getElem?_set]
  split
  · rename_i e
    subst e
    obtain ⟨hi, e1⟩ := List.getElem?_eq_some_iff.mp h
    rw [List.length_map, if_pos hi, List.getElem?_map, h]
    rfl
  · rfl
/-- what is known changes, the addresses stay -/
theorem At.chg (A : At M H0 H L T) {N : List Addr} (k : Kp N H H') (hN : ∀ a ∈ N, a ∈ L.map Prod.fst) (e : L'.map Prod.fst = L.map Prod.fst) (hm : ∀ e ∈ L', H' e.1 = some e.2) (hNM : ∀ a ∈ N, H0 a = none ∨ a ∈ M) : At M H0 H' L' T := by
  refine ⟨fun a u q hM => k a u (A.base a u q hM) fun hn => ?_, e ▸ A.nd, hm, fun x hx => ?_, fun a ha => e ▸ A.mL a ha, fun x hx => k _ _ (A.tm x hx) fun hn => A.td x hx (hN _ hn), fun x hx => e ▸ A.td x hx, A.tn⟩
  · rcases hNM a hn with z | z
    · rw [q] at z; cases z
    · exact hM z
  · have : x.1 ∈ L.map Prod.fst := e ▸ List.mem_map_of_mem (f := Prod.fst) hx
    obtain ⟨y, hy, ey⟩ := List.mem_map.mp this
    rw [← ey]
    exact A.own y hy
theorem mem_set_cases {x : Addr × HO} (h : L[i]? = some (p, o)) (nd : (L.map Prod.fst).Nodup) (hx : x ∈ L.set i (p, o')) : x = (p, o') ∨ (x ∈ L ∧ x.1 ≠ p) := by
  obtain ⟨j, hj⟩ := List.getElem?_of_mem hx
  rw [List.getElem?_set] at hj
  split at hj
  · split at hj
    · exact .inl (Option.some.inj hj).symm
    · cases hj
  · rename_i ne
    refine .inr ⟨List.mem_of_getElem? hj, fun q => ne ?_⟩
    have a1 : (L.map Prod.fst)[i]? = some p := by rw [List.getElem?_map, h]; rfl
    have a2 : (L.map Prod.fst)[j]? = some p := by rw [List.getElem?_map, hj]; exact congrArg some q
    exact nd_ix nd a1 a2
/-- a callee changed the object at place i alone -/
theorem At.c1 (A : At M H0 H L T) (i : Nat) (h : L[i]? = some (p, o)) (k : Kp [p] H H') (hp : H' p = some o') : At M H0 H' (L.set i (p, o')) T := by
  have hm : p ∈ L.map Prod.fst := List.mem_map_of_mem (f := Prod.fst) (List.mem_of_getElem? h)
  refine A.chg k (fun a ha => by rw [List.mem_singleton] at ha; exact ha ▸ hm) (map_set_fst L i h) (fun x hx => ?_) (fun a ha => by rw [List.mem_singleton] at ha; subst ha; exact A.own _ (List.mem_of_getElem? h))
  rcases mem_set_cases h A.nd hx with rfl | ⟨hx, ne⟩
  · exact hp
  · exact k _ _ (A.mem x hx) (by rw [List.mem_singleton]; exact ne)
theorem At.c0 (A : At M H0 H L T) (k : Kp [] H H') : At M H0 H' L T := A.chg k (by simp) rfl (fun x hx => k _ _ (A.mem x hx) (by simp)) (by simp)
theorem At.set (A : At M H0 H L T) (i : Nat) (h : L[i]? = some (p, o)) (o' : HO) : At M H0 (upd H p o') (L.set i (p, o')) T :=
  A.c1 i h (fun a u e hn => by rw [upd_ne (by simpa using hn)]; exact e) upd_same
/-- a callee made the object at p -/
theorem At.add (A : At M H0 H L T) (A' : At M H0 H' L' T) (e : L'.map Prod.fst = L.map Prod.fst) (h : H p = none) (hp : H' p = some o) : At M H0 H' (L' ++ [(p, o)]) T := by
  have fr := A.fresh h
  refine ⟨A'.base, ?_, ?_, ?_, ?_, A'.tm, ?_, A'.tn⟩
  · rw [List.map_append, List.nodup_append]
    refine ⟨A'.nd, by simp, ?_⟩
    intro a ha b hb q
    rw [List.map_singleton, List.mem_singleton] at hb
    subst q; subst hb
    exact fr (e ▸ ha)
  · intro x he
    rcases List.mem_append.mp he with he | he
    · exact A'.mem x he
    · rw [List.mem_singleton] at he; subst he; exact hp
  · intro x he
    rcases List.mem_append.mp he with he | he
    · exact A'.own x he
    · rw [List.mem_singleton] at he; subst he; exact .inl (A.fresh0 h)
  · intro a ha
    rw [List.map_append]
    exact List.mem_append_left _ (A'.mL a ha)
  · intro x he
    rw [List.map_append, List.mem_append]
    rintro (q | q)
    · exact A'.td x he q
    · rw [List.map_singleton, List.mem_singleton] at q; exact A.freshT h x he q
theorem At.addT (A : At M H0 H L T) (A' : At M H0 H' L' T) (e : L'.map Prod.fst = L.map Prod.fst) (N : List (Addr × HO)) (h : ∀ x ∈ N, H x.1 = none ∧ H' x.1 = some x.2) : At M H0 H' L' (T ++ N) := by
  refine ⟨A'.base, A'.nd, A'.mem, A'.own, A'.mL, ?_, ?_, ?_⟩
  · intro x he
    rcases List.mem_append.mp he with he | he
    · exact A'.tm x he
    · exact (h x he).2
  · intro x he
    rcases List.mem_append.mp he with he | he
    · exact A'.td x he
    · rw [e]; exact A.fresh (h x he).1
  · intro x he
    rcases List.mem_append.mp he with he | he
    · exact A'.tn x he
    · exact A.fresh0 (h x he).1
/-- the later entries forgotten -/
theorem At.take (A : At M H0 H L T) (n : Nat) (hM : ∀ a ∈ M, a ∈ (L.take n).map Prod.fst) : At M H0 H (L.take n) T :=
  ⟨A.base, A.nd.sublist ((List.take_sublist n L).map _), fun e he => A.mem e (List.mem_of_mem_take he), fun e he => A.own e (List.mem_of_mem_take he), hM, A.tm,
    fun e he q => A.td e he (((List.take_sublist n L).map _).subset q), A.tn⟩
theorem At.sub (A : At M H0 H L T) (hs : List.Sublist L' L) (hM : ∀ a ∈ M, a ∈ L'.map Prod.fst) : At M H0 H L' T :=
  ⟨A.base, A.nd.sublist (hs.map _), fun e he => A.mem e (hs.subset he), fun e he => A.own e (hs.subset he), hM, A.tm, fun e he q => A.td e he ((hs.map _).subset q), A.tn⟩
theorem At.sel (A : At M H0 H L T) (hM : ∀ a ∈ M, a ∈ L'.map Prod.fst) (hs : List.Sublist L' L) : At M H0 H L' T := A.sub hs hM
theorem At.selT (A : At M H0 H L T) (N : List (Addr × HO)) (h : ∀ x ∈ N, x ∈ T) : At M H0 H L N := ⟨A.base, A.nd, A.mem, A.own, A.mL, fun e he => A.tm e (h e he), fun e he => A.td e (h e he), fun e he => A.tn e (h e he)⟩
theorem At.lst {K : PySem.W.Frag} {xs : List V} (A : At M H0 H L T) (i : Nat) (h : L[i]? = some (p, .lst xs)) : SqL K H p xs := .inl (.inl (A.in h))
theorem At.tup {K : PySem.W.Frag} {xs : List V} (A : At M H0 H L T) (i : Nat) (h : L[i]? = some (p, .tup xs)) : SqT K H p xs := .inl (.inl (A.in h))
theorem At.sq {K : PySem.W.Frag} {xs : List V} (A : At M H0 H L T) (h : SqL K H0 p xs) (hM : p ∉ M) : SqL K H p xs := A.keep.seq h hM
theorem At.st {K : PySem.W.Frag} {xs : List V} (A : At M H0 H L T) (h : SqT K H0 p xs) (hM : p ∉ M) : SqT K H p xs := A.keep.sqt h hM
theorem At.ne (A : At M H0 H L T) {q : Addr} {u : HO} (i j : Nat) (h : L[i]? = some (p, o)) (h' : L[j]? = some (q, u)) (hij : i ≠ j) : p ≠ q := fun e => by
  subst e
  exact hij (nd_ix A.nd (x := p) (by rw [List.getElem?_map, h]; rfl) (by rw [List.getElem?_map, h']; rfl))
end

/-! the changed heap as a letter: the reading behind it is f of the heap (u: a new object; s: an object set; t: a new object that stays; n: a new one not looked at) -/
section
variable {M : List Addr} {H0 H : Hp} {L T : List (Addr × HO)} {p : Addr} {o o' : HO} {α β : Sort _} {f1 : Hp → Prop} {f2 : Hp → α → Prop} {f3 : Hp → α → β → Prop} {q : α} {r : β}
theorem At.u1 (A : At M H0 H L T) (h : H p = none) (k : ∀ H', At M H0 H' (L ++ [(p, o)]) T → f1 H') : f1 (upd H p o) := k _ (A.snoc h o)
theorem At.u2 (A : At M H0 H L T) (h : H p = none) (k : ∀ H', At M H0 H' (L ++ [(p, o)]) T → f2 H' q) : f2 (upd H p o) q := k _ (A.snoc h o)
theorem At.s1 (A : At M H0 H L T) (i : Nat) (h : L[i]? = some (p, o)) (k : ∀ H', At M H0 H' (L.set i (p, o')) T → f1 H') : f1 (upd H p o') := k _ (A.set i h o')
theorem At.s2 (A : At M H0 H L T) (i : Nat) (h : L[i]? = some (p, o)) (k : ∀ H', At M H0 H' (L.set i (p, o')) T → f2 H' q) : f2 (upd H p o') q := k _ (A.set i h o')
theorem At.t1 (A : At M H0 H L T) (h : H p = none) (k : ∀ H', At M H0 H' L (T ++ [(p, o)]) → f1 H') : f1 (upd H p o) := k _ (A.snocT h o)
theorem At.t2 (A : At M H0 H L T) (h : H p = none) (k : ∀ H', At M H0 H' L (T ++ [(p, o)]) → f2 H' q) : f2 (upd H p o) q := k _ (A.snocT h o)
theorem At.n1 (A : At M H0 H L T) (h : H p = none) (k : ∀ H', At M H0 H' L T → f1 H') : f1 (upd H p o) := k _ (A.skip (Sk.of h))
theorem At.n2 (A : At M H0 H L T) (h : H p = none) (k : ∀ H', At M H0 H' L T → f2 H' q) : f2 (upd H p o) q := k _ (A.skip (Sk.of h))
end
/-! ### calls of the text's own defs -/
structure Cl (P : Program) (w : World) (K : PySem.W.Frag) (mg : Str → Option Value) (base : Heap) (k : Nat) (x : Str) (sp : Sp) : Prop where
  ex : ∃ (f : Addr) (fd : FuncData) (ps : List Str), FnOk P w K mg base CX0 k f fd ps sp ∧ mg x = some (.ref f) ∧ PySem.W.keepIn K (.ref f) = true ∧ Binds K fd ps []
section
variable {X : Cx} {k j : Nat} {x : Str} {sp : Sp} {p pos : Pos} {e : Expr} {es : List Expr} {t : TA}
theorem pe_cl (c : Cl X.prog X.w X.K X.mg X.base k x sp) (hr : Room j X.A) (hk : k ≤ j) (hg : Gl X x) (ha : PA X (e :: es) t)
    (hdb : (x == ("__debug__" : Str)) = false := by decide) (he : starEach (e :: es) X.env = (false, eval e X.env) :: starEach es X.env := by rfl) (hpl : (backTo pos (starEach es X.env)).any (·.1) = false := by rfl) :
    PE X (.Call (.Name x p) (e :: es) [] pos) (tCall sp [] E0 t) := by
  obtain ⟨f, fd, ps, F, hm, kp, b⟩ := c.ex
  exact pe_call F (hr.mono hk) hg hm kp b .nil pass0 ha hdb he hpl
end

section
variable {X : Cx} {x : Str} {pos : Pos}
theorem pe_ty {T : String} (hg : Gl X x) (hm : X.mg x = none) (hv : bootBuiltins x = some (.type T)) (hn : x ≠ "__name__" := by decide) (hd : (x == ("__debug__" : Str)) = false := by decide) : PE X (.Name x pos) (tC (.ty T)) := pe_bltn hg hm hv rfl hn hd
theorem pe_gint {i : Int} (hg : Gl X x) (h : ∃ t, X.mg x = some (.int i t)) (hd : (x == ("__debug__" : Str)) = false := by decide) : PE X (.Name x pos) (tC (.int i)) := by
  obtain ⟨t, h⟩ := h
  exact pe_glob hg h ⟨t, rfl⟩ hd
theorem pe_gref {a : Addr} (hg : Gl X x) (h : X.mg x = some (.ref a)) (hd : (x == ("__debug__" : Str)) = false := by decide) : PE X (.Name x pos) (tC (.ref a)) := pe_glob hg h rfl hd
end
/-! within a comprehension's block: K as it is in the def -/
section
variable {X : Cx} {K : PySem.W.Frag}
theorem ix_list' (h : X.K = K) : IxR X (rIxL K) := h ▸ ix_list
theorem ix_tup' (h : X.K = K) : IxR X (rIxT K) := h ▸ ix_tup
theorem sl_list' (h : X.K = K) : SlR X (rSlL K) := h ▸ sl_list
theorem op_in_seq' (h : X.K = K) : OpR X (compareOp .In) (rIn K false) := h ▸ op_in_seq
theorem op_notIn_seq' (h : X.K = K) : OpR X (compareOp .NotIn) (rIn K true) := h ▸ op_notIn_seq
theorem op_eqD' (h : X.K = K) (hu : X.A.units + 64 < cLine) : OpR X (compareOp .Eq) (rEqD K) := h ▸ op_eqD hu
theorem op_neD' (h : X.K = K) (hu : X.A.units + 64 < cLine) : OpR X (compareOp .NotEq) (rNeD K) := h ▸ op_neD hu
theorem call_isi' (h : X.K = K) : CallR X (.builtin "isinstance") (rIsi K) := h ▸ call_isi
theorem pe_fld' {e : Expr} {f : Str} {pos : Pos} {ta : TE} (h : X.K = K) (he : PE X e ta) (hb : attributeBase e f X.env (eval e X.env) = eval e X.env) : PE X (.Attribute e f pos) (tFld K ta f) := h ▸ pe_fld he hb
theorem pg_tup' {pos : Pos} {es : List Expr} {k : Nat} {t : TGs} {n : Nat} (hK : X.K = K) (hc : X.calm = true) (h : PGs X es t)
    (hn : (assignEach es X.env).length = n := by rfl) (hst : (assignEach es X.env).findIdx? (·.1) = none := by rfl) : PG X (.Tuple es k pos) (gTup K n t) := hK ▸ pg_tup hc h hn hst
end
/-! ### readings, one step each -/
section
variable {σ : L2.St} {H : Hp} {Q : VK} {ta tb tc te : TE} {r r' : R2} {v x y : V} {K : PySem.W.Frag} {g : TG} {t u : TS} {c c' : TT} {n bk ct : L2.St → Hp → Prop} {rt : VK} {QT : Bool → Hp → Prop} {QA : List V → Hp → Prop} {tr : TA}
theorem rd_var {i : Nat} (h : σ[i]? = some (some v)) (k : Q v H) : tVar i σ H Q := ⟨v, h, k⟩
theorem rd_c (k : Q v H) : tC v σ H Q := k
theorem rd_op (k : ta σ H fun x H1 => tb σ H1 fun y H2 => r x y H2 Q) : tOp r ta tb σ H Q := k
theorem rd_un {r : V → Hp → VK → Prop} (k : ta σ H fun x H1 => r x H1 Q) : tUn r ta σ H Q := k
theorem rd_I0 {f : Int → Int → V} {i j : Int} (k : Q (f i j) H) : rI0 f (.int i) (.int j) H Q := ⟨i, j, rfl, rfl, k⟩
theorem rd_I {C : Int → Int → Prop} {f : Int → Int → V} {i j : Int} (c : C i j) (k : Q (f i j) H) : rI C f (.int i) (.int j) H Q := ⟨i, j, rfl, rfl, c, k⟩
theorem rd_mul {i j : Int} (c : CMul i j) (k : Q (.int (i * j)) H) : rI CMul (fun i j => .int (i * j)) (.int i) (.int j) H Q := ⟨i, j, rfl, rfl, c, k⟩
theorem rd_mod {i j : Int} (c : 0 < j) (k : Q (.int (i % j)) H) : rI (fun _ j => 0 < j) (fun i j => .int (i % j)) (.int i) (.int j) H Q := ⟨i, j, rfl, rfl, c, k⟩
theorem rd_fdiv {i j : Int} (c : CDiv i j) (k : Q (.int (i / j)) H) : rI CDiv (fun i j => .int (i / j)) (.int i) (.int j) H Q := ⟨i, j, rfl, rfl, c, k⟩
theorem rd_pow {i j : Int} (c : CPow i j) (k : Q (.int (i ^ j.toNat)) H) : rI CPow (fun i j => .int (i ^ j.toNat)) (.int i) (.int j) H Q := ⟨i, j, rfl, rfl, c, k⟩
theorem rd_U {f : Int → V} {i : Int} (k : Q (f i) H) : rU f (.int i) H Q := ⟨i, rfl, k⟩
theorem rd_eq (h : scal x y = true) (k : Q (.bl (decide (x = y))) H) : rEq x y H Q := ⟨h, k⟩
theorem rd_ne (h : scal x y = true) (k : Q (.bl (!decide (x = y))) H) : rNe x y H Q := ⟨h, k⟩
theorem rd_test (k : te σ H fun x H' => ∃ k, x = .bl k ∧ QT k H') : tTest te σ H QT := k
theorem rd_B (k : te σ H fun x H' => ∃ k, x = .bl k ∧ QT k H') : tB te σ H QT := k
theorem rd_bl {b : Bool} {R : Bool → Prop} (k : R b) : ∃ c, V.bl b = .bl c ∧ R c := ⟨b, rfl, k⟩
theorem rd_and (k : c σ H fun b H1 => if b = true then c' σ H1 QT else QT false H1) : tAnd c c' σ H QT := k
theorem rd_or (k : c σ H fun b H1 => if b = true then QT true H1 else c' σ H1 QT) : tOr c c' σ H QT := k
theorem rd_yes (k : QT true H) : tYes σ H QT := k
theorem rd_not (k : c σ H fun b H1 => QT (!b) H1) : tNot c σ H QT := k
theorem rd_andV (k : ta σ H fun x H1 => ∃ b, x = .bl b ∧ if b = true then tb σ H1 Q else Q (.bl false) H1) : tAndV ta tb σ H Q := k
theorem rd_orV (k : ta σ H fun x H1 => ∃ b, x = .bl b ∧ if b = true then Q (.bl true) H1 else tb σ H1 Q) : tOrV ta tb σ H Q := k
theorem rd_notV (k : ta σ H fun x H1 => ∃ b, x = .bl b ∧ Q (.bl (!b)) H1) : tNotV ta σ H Q := k
theorem rd_ifE (k : c σ H fun b H1 => if b = true then ta σ H1 Q else tb σ H1 Q) : tIf c ta tb σ H Q := k
theorem rd_chain (k : ta σ H fun x H1 => tb σ H1 fun y H2 => r x y H2 fun z H3 => ∃ k, z = .bl k ∧ (if k = true then tc σ H3 fun w' H4 => r' y w' H4 Q else Q (.bl false) H3)) : tChain r r' ta tb tc σ H Q := k
theorem rd_cons (k : ta σ H fun x H1 => tr σ H1 fun xs H2 => QA (x :: xs) H2) : tCons ta tr σ H QA := k
theorem rd_nil (k : QA [] H) : tNil σ H QA := k
theorem rd_call {sp : Sp} {E : XK} {dvs : List V} (k : tr σ H fun vs H1 => sp (vs ++ dvs) H1 Q E) : tCall sp dvs E tr σ H Q := k
theorem rd_cb {r : List V → Hp → VK → Prop} (k : tr σ H fun vs H1 => r vs H1 Q) : tCB r tr σ H Q := k
theorem rd_tup (k : tr σ H fun xs H1 => xs.length ≤ sizeLine ∧ ∀ p, H1 p = none → Q (.ref p) (upd H1 p (.tup xs))) : tTup tr σ H Q := k
theorem rd_lst (k : tr σ H fun xs H1 => xs.length ≤ sizeLine ∧ ∀ p, H1 p = none → Q (.ref p) (upd H1 p (.lst xs))) : tLst tr σ H Q := k
theorem rd_bm0 {T : String} {r : V → List V → Hp → VK → Prop} (k : te σ H fun x H1 => tyV K T x H1 ∧ r x [] H1 Q) : tBM0 K T r te σ H Q := k
theorem rd_bm {T : String} {r : V → List V → Hp → VK → Prop} (k : te σ H fun x H1 => tyV K T x H1 ∧ tr σ H1 fun xs H2 => r x xs H2 Q) : tBM K T r te tr σ H Q := k
theorem rd_m1 {r : V → List V → Hp → VK → Prop} (k : ta σ H fun x H1 => (∃ a, x = .str a) ∧ tb σ H1 fun y H2 => r x [y] H2 Q) : tM1 r ta tb σ H Q := k
theorem rd_sl {rs : V → Option Int → Option Int → Hp → VK → Prop} {tl th : TO} (k : te σ H fun x H1 => tl σ H1 fun lo H2 => th σ H2 fun hi H3 => rs x lo hi H3 Q) : tSl rs te tl th σ H Q := k
theorem rd_po0 {QO : Option Int → Hp → Prop} (k : QO none H) : tNoPart σ H QO := k
theorem rd_po1 {QO : Option Int → Hp → Prop} (k : te σ H fun x H1 => ∃ i, x = .int i ∧ QO (some i) H1) : tPart te σ H QO := k
theorem rd_in {i : Int} {R : Int → Prop} (k : R i) : ∃ j, V.int i = .int j ∧ R j := ⟨i, rfl, k⟩
theorem rd_dni {td ty : TE} (k : ty σ H fun y H1 => td σ H1 fun x H2 => ∃ a o, x = .ref a ∧ DGet H2 a y o ∧ Q (.bl (!o.isSome)) H2) : tDNotIn ty td σ H Q := k
theorem rd_di {td ty : TE} (k : ty σ H fun y H1 => td σ H1 fun x H2 => ∃ a o, x = .ref a ∧ DGet H2 a y o ∧ Q (.bl o.isSome) H2) : tDIn ty td σ H Q := k
theorem rd_dget {td ty : TE} (k : td σ H fun x H1 => ty σ H1 fun y H2 => ∃ a v, x = .ref a ∧ DGet H2 a y (some v) ∧ Q v H2) : tDGet td ty σ H Q := k
theorem rd_dget1 {td ty : TE} (k : td σ H fun x H1 => ∃ a, x = .ref a ∧ IsD H1 a ∧ ty σ H1 fun y H2 => ∃ o, DGet H2 a y o ∧ Q (o.getD .non) H2) : tDGet1 td ty σ H Q := k
theorem rd_dget2 {td ty tx : TE} (k : td σ H fun x H1 => ∃ a, x = .ref a ∧ IsD H1 a ∧ ty σ H1 fun y H2 => tx σ H2 fun z H3 => ∃ o, DGet H3 a y o ∧ Q (o.getD z) H3) : tDGet2 td ty tx σ H Q := k
theorem rd_dput {td ty tv : TE} (k : tv σ H fun v H1 => td σ H1 fun x H2 => ty σ H2 fun y H3 => ∃ a H4, x = .ref a ∧ DPut H3 a y v H4 ∧ n σ H4) : sDPut td ty tv ⟨n, rt, bk, ct⟩ σ H := k
theorem rd_dnew (k : ∀ p, H p = none → Q (.ref p) (upd H p (.dK []))) : tDNewK σ H Q := k
theorem rd_ikeys {td : TE} {R : It → Hp → Prop} (k : td σ H fun x H1 => ∃ d o, x = .ref d ∧ ((∃ kvs, H1 d = some (.frz o (.dK kvs)) ∧ R (Itk d o kvs) H1) ∨ ∃ kvs, H1 d = some (.frz o (.dT kvs)) ∧ R (Itkt d o kvs) H1)) : iKeys td σ H R := k
-- statements
theorem rd_lock {d : Addr} {u : HO} {t : TS} (hd : H d = some u) (mu : Mut (some u)) (k : ∀ od, t ⟨fun σ' H' => H' d = some (.frz od u) ∧ n σ' (upd H' d u), fun v H' => H' d = some (.frz od u) ∧ rt v (upd H' d u), fun σ' H' => H' d = some (.frz od u) ∧ bk σ' (upd H' d u), fun σ' H' => H' d = some (.frz od u) ∧ ct σ' (upd H' d u)⟩ σ (upd H d (.frz od u))) : tLock t ⟨n, rt, bk, ct⟩ σ H := ⟨d, u, hd, mu, k⟩
theorem rd_lockE {d : Addr} {u : HO} {t : TE} (hd : H d = some u) (mu : Mut (some u)) (k : ∀ od, t σ (upd H d (.frz od u)) fun v H' => H' d = some (.frz od u) ∧ Q v (upd H' d u)) : tLockE t σ H Q := ⟨d, u, hd, mu, k⟩
theorem rd_seq (k : t ⟨u ⟨n, rt, bk, ct⟩, rt, bk, ct⟩ σ H) : tSeq t u ⟨n, rt, bk, ct⟩ σ H := k
theorem rd_set {i : Nat} (k : te σ H fun x H1 => n (σ.set i (some x)) H1) : tAsg te (gName i) ⟨n, rt, bk, ct⟩ σ H := k
theorem rd_asg (k : te σ H fun x H1 => g x σ H1 n) : tAsg te g ⟨n, rt, bk, ct⟩ σ H := k
theorem rd_sub {s : TSet} {Q : L2.St → Hp → Prop} (k : ta σ H fun o H1 => tb σ H1 fun i H2 => s o i v H2 fun H3 => Q σ H3) : gSub ta tb s v σ H Q := k
theorem rd_ret (k : te σ H rt) : tRet te ⟨n, rt, bk, ct⟩ σ H := k
theorem rd_drop (k : te σ H fun _ H1 => n σ H1) : tDrop te ⟨n, rt, bk, ct⟩ σ H := k
theorem rd_next' (k : n σ H) : tNext ⟨n, rt, bk, ct⟩ σ H := k
theorem rd_if (k : c σ H fun b H1 => if b = true then t ⟨n, rt, bk, ct⟩ σ H1 else u ⟨n, rt, bk, ct⟩ σ H1) : tIfS c t u ⟨n, rt, bk, ct⟩ σ H := k
theorem rd_brk (k : bk σ H) : tBreak ⟨n, rt, bk, ct⟩ σ H := k
theorem rd_cont (k : ct σ H) : tCont ⟨n, rt, bk, ct⟩ σ H := k
theorem rd_lc {wi : TI} {vs : List Nat} (k : wi σ H fun J H1 => ∀ D, H1 D = none → ∃ W : Nat → Nat → Hp → Prop, (∃ m, W 0 m (upd H1 D (.lst []))) ∧ ∀ i m H, W i m H →
  (J.stop i H ∧ Q (.ref D) H) ∨ (J.go i H ∧ ∃ Nx : Hp → Prop, (∀ H', Nx H' → ∃ m', m' < m ∧ W (i + 1) m' H') ∧ ∀ x H', J.yld i H x H' → g x (wipe σ vs) H' fun σ2 H2 => wipe σ2 vs = wipe σ vs ∧ c σ2 H2 fun b H3 =>
    if b = true then te σ2 H3 fun y H4 => ∃ acc, H4 D = some (.lst acc) ∧ acc.length < sizeLine ∧ Nx (upd H4 D (.lst (acc ++ [y]))) else Nx H3)) : tLc wi g c te vs σ H Q := k
theorem rd_rng1 {R : It → Hp → Prop} (k : tr σ H fun vs H1 => ∃ j : Int, vs = [.int j] ∧ -(2 ^ 62) ≤ j ∧ j < 2 ^ 62 ∧ R (Itr 0 j.toNat) H1) : iRng1 tr σ H R := k
theorem rd_istr {R : It → Hp → Prop} (k : te σ H fun v H1 => ∃ x, v = .str x ∧ R (Its x) H1) : iStr te σ H R := k
theorem rd_ilst {R : It → Hp → Prop} (k : te σ H fun x H1 => ∃ a, x = .ref a ∧ (∃ xs, SqL K H1 a xs) ∧ R (Itl K a) H1) : iList K te σ H R := k
theorem rd_ienum {R : It → Hp → Prop} (k : tr σ H fun vs H1 => ∃ a xs, vs = [.ref a] ∧ SqL K H1 a xs ∧ R (Ite K a) H1) : iEnum K tr σ H R := k
-- ifs
theorem rd_ite {p : Prop} [Decidable p] {A B : Prop} (h1 : p → A) (h2 : ¬ p → B) : if decide p = true then A else B := by
  by_cases h : p
  · rw [if_pos (decide_eq_true h)]; exact h1 h
  · rw [if_neg (by rw [decide_eq_false h]; decide)]; exact h2 h
theorem rd_iteN {p : Prop} [Decidable p] {A B : Prop} (h1 : ¬ p → A) (h2 : p → B) : if (!decide p) = true then A else B := by
  by_cases h : p
  · rw [decide_eq_true h, if_neg (by decide)]; exact h2 h
  · rw [decide_eq_false h]; simpa using h1 h
theorem rd_T {A B : Prop} (h : A) : if true = true then A else B := by rw [if_pos rfl]; exact h
theorem rd_F {A B : Prop} (h : B) : if false = true then A else B := by rw [if_neg (by decide)]; exact h
theorem rd_nT {A B : Prop} (h : B) : if (!true) = true then A else B := by rw [if_neg (by decide)]; exact h
theorem rd_nF {A B : Prop} (h : A) : if (!false) = true then A else B := by rw [if_pos (by rfl)]; exact h
theorem rd_iteB {b : Bool} {A B : Prop} (h1 : b = true → A) (h2 : b = false → B) : if b = true then A else B := by
  cases b
  · exact h2 rfl
  · exact h1 rfl
-- the heap, by the ledger
variable {M : List Addr} {H0 : Hp} {L T : List (Addr × HO)}
theorem rd_new {o : HO} {m : Nat} (A : At M H0 H L T) (hz : m ≤ sizeLine) (k : ∀ p H', At M H0 H' (L ++ [(p, o)]) T → Q (.ref p) H') : m ≤ sizeLine ∧ ∀ p, H p = none → Q (.ref p) (upd H p o) := ⟨hz, fun p h => k p _ (A.snoc h o)⟩
theorem rd_new1 {o : HO} (A : At M H0 H L T) (k : ∀ p H', At M H0 H' (L ++ [(p, o)]) T → Q (.ref p) H') : ∀ p, H p = none → Q (.ref p) (upd H p o) := fun p h => k p _ (A.snoc h o)
theorem rd_newT {o : HO} {m : Nat} (A : At M H0 H L T) (hz : m ≤ sizeLine) (k : ∀ p H', At M H0 H' L (T ++ [(p, o)]) → Q (.ref p) H') : m ≤ sizeLine ∧ ∀ p, H p = none → Q (.ref p) (upd H p o) := ⟨hz, fun p h => k p _ (A.snocT h o)⟩
theorem rd_ixL {p : Addr} {xs : List V} {i : Int} (h : SqL K H p xs) (e : atI xs i = some v) (k : Q v H) : rIxL K (.ref p) (.int i) H Q := ⟨p, xs, i, v, rfl, rfl, h, e, k⟩
theorem rd_ixS {z : Str} {i : Int} {c : Nat} (h : z.length ≤ sizeLine) (e : atI z.cps.toList i = some c) (k : Q (.str ⟨#[c]⟩) H) : rIxS (.str z) (.int i) H Q := ⟨z, i, c, rfl, rfl, h, e, k⟩
theorem rd_ixT {p : Addr} {xs : List V} {i : Int} (h : SqT K H p xs) (e : atI xs i = some v) (k : Q v H) : rIxT K (.ref p) (.int i) H Q := ⟨p, xs, i, v, rfl, rfl, h, e, k⟩
theorem rd_setL {p : Addr} {xs : List V} {i : Int} {j : Nat} {QH : Hp → Prop} (A : At M H0 H L T) (m : Nat) (h : L[m]? = some (p, .lst xs)) (e : ixN xs.length i = some j) (k : ∀ H', At M H0 H' (L.set m (p, .lst (xs.set j v))) T → QH H') : rSetL (.ref p) (.int i) v H QH :=
  ⟨p, xs, i, j, rfl, rfl, A.in h, e, k _ (A.set m h _)⟩
theorem rd_acc {D : Addr} {acc : List V} {Nx : Hp → Prop} (A : At M H0 H L T) (m : Nat) (h : L[m]? = some (D, .lst acc)) (hz : acc.length < sizeLine) (k : ∀ H', At M H0 H' (L.set m (D, .lst (acc ++ [v]))) T → Nx H') :
    ∃ acc, H D = some (.lst acc) ∧ acc.length < sizeLine ∧ Nx (upd H D (.lst (acc ++ [v]))) := ⟨acc, A.in h, hz, k _ (A.set m h _)⟩
theorem rd_slL {a : Addr} {xs : List V} {lo hi : Option Int} (A : At M H0 H L T) (h : SqL K H a xs) (k : ∀ p H', At M H0 H' (L ++ [(p, .lst (cutV xs lo hi))]) T → Q (.ref p) H') : rSlL K (.ref a) lo hi H Q := ⟨a, xs, rfl, h, fun p hp => k p _ (A.snoc hp _)⟩
theorem rd_for {wi : TI} (k : wi σ H fun J H1 => ∃ W : Nat → Nat → L2.St → Hp → Prop, (∃ m, W 0 m σ H1) ∧ ∀ i m σ H, W i m σ H → (J.stop i H ∧ n σ H) ∨ (J.go i H ∧ ∃ N : L2.St → Hp → Prop, (∀ σ' H', N σ' H' → ∃ m', m' < m ∧ W (i + 1) m' σ' H') ∧ ∀ x H', J.yld i H x H' → g x σ H' fun σ2 H2 => t ⟨N, rt, n, N⟩ σ2 H2)) : tFor wi g t ⟨n, rt, bk, ct⟩ σ H := k
/-- a for over what walks -/
theorem forI {J : It} {z : Nat} {G : Hp → Prop} {Y : Nat → Hp → V → Hp → Prop} (w : Walk J z G Y) (Pv : Nat → L2.St → Hp → Prop) (h0 : Pv 0 σ H) (hG : ∀ i σ H, i ≤ z → Pv i σ H → G H)
    (hs : ∀ i x σ H H', i < z → Pv i σ H → Y i H x H' → g x σ H' fun σ2 H2 => t ⟨Pv (i + 1), rt, n, Pv (i + 1)⟩ σ2 H2) (hd : ∀ σ H, Pv z σ H → n σ H) :
    ∃ W : Nat → Nat → L2.St → Hp → Prop, (∃ m, W 0 m σ H) ∧ ∀ i m σ H, W i m σ H → (J.stop i H ∧ n σ H) ∨ (J.go i H ∧ ∃ N : L2.St → Hp → Prop, (∀ σ' H', N σ' H' → ∃ m', m' < m ∧ W (i + 1) m' σ' H') ∧ ∀ x H', J.yld i H x H' → g x σ H' fun σ2 H2 => t ⟨N, rt, n, N⟩ σ2 H2) :=
  for_it (D := ⟨n, rt, fun _ _ => False, fun _ _ => False⟩) w Pv h0 hG hs hd
/-- while: W falls -/
theorem rd_while (W : Nat → L2.St → Hp → Prop) (m : Nat) (h0 : W m σ H) (hs : ∀ m σ H, W m σ H → c σ H fun b H1 => if b = true then ∃ N : L2.St → Hp → Prop, (∀ σ' H', N σ' H' → ∃ m', m' < m ∧ W m' σ' H') ∧ t ⟨N, rt, n, N⟩ σ H1 else n σ H1) : tWhile c t ⟨n, rt, bk, ct⟩ σ H := ⟨W, ⟨m, h0⟩, hs⟩
/-- for i, x in enumerate(l) -/
theorem rd_forEnum {l : Addr} {xs : List V} {a b j : Nat} (hj : σ[j]? = some (some (.ref l))) (h : SqL K H l xs) (Pv : Nat → L2.St → Hp → Prop) (h0 : Pv 0 σ H) (hl : ∀ i σ H, Pv i σ H → SqL K H l xs)
    (hs : ∀ i x σ H H', xs[i]? = some x → Pv i σ H → Sk H H' → t ⟨Pv (i + 1), rt, n, Pv (i + 1)⟩ ((σ.set a (some (.int (i : Int)))).set b (some x)) H') (hd : ∀ σ H, Pv xs.length σ H → n σ H) :
    tFor (iEnum K (tCons (tVar j) tNil)) (gTup K 2 (gCons (gName a) (gCons (gName b) gNil))) t ⟨n, rt, bk, ct⟩ σ H := by
  refine ⟨_, hj, l, xs, rfl, h, for_it walk_enum Pv h0 (fun i σ H _ p => hl i σ H p) (fun i x σ H H' hi p y => ?_) hd⟩
  obtain ⟨T, x1, x2, rfl, hT, rfl, e1, e2⟩ := y
  cases Option.some.inj e1
  exact ⟨T, [.int (i : Nat), x2], rfl, .inl (.inl upd_same), rfl, _, _, rfl, _, _, rfl, rfl, hs i x2 σ H _ e2 p (Sk.of hT)⟩
/-- a value reckoned without a change of the heap -/
def Pu (te : TE) (σ : L2.St) (H : Hp) (v : V) : Prop := ∀ Q : VK, Q v H → te σ H Q
def PuT (tt : TT) (σ : L2.St) (H : Hp) (b : Bool) : Prop := ∀ Q : Bool → Hp → Prop, Q b H → tt σ H Q
theorem rd_andP {b1 b2 : Bool} (h1 : Pu ta σ H (.bl b1)) (h2 : b1 = true → Pu tb σ H (.bl b2)) (k : Q (.bl (b1 && b2)) H) : tAndV ta tb σ H Q :=
  h1 _ ⟨b1, rfl, by cases b1 with
    | true => exact rd_T (h2 rfl _ k)
    | false => exact rd_F k⟩
theorem rd_orP {b1 b2 : Bool} (h1 : Pu ta σ H (.bl b1)) (h2 : b1 = false → Pu tb σ H (.bl b2)) (k : Q (.bl (b1 || b2)) H) : tOrV ta tb σ H Q :=
  h1 _ ⟨b1, rfl, by cases b1 with
    | true => exact rd_T k
    | false => exact rd_F (h2 rfl _ k)⟩
theorem rd_pu (h : Pu te σ H v) (k : Q v H) : te σ H Q := h Q k
theorem rd_cut (Mid : L2.St → Hp → Prop) (h1 : t ⟨Mid, rt, bk, ct⟩ σ H) (h2 : ∀ σ' H', Mid σ' H' → u ⟨n, rt, bk, ct⟩ σ' H') : Evl.tCut t u ⟨n, rt, bk, ct⟩ σ H := ⟨Mid, h1, h2⟩
theorem rd_gn {i : Nat} {Q : L2.St → Hp → Prop} (k : Q (σ.set i (some v)) H) : gName i v σ H Q := k
end
theorem paired_map {α β γ : Type} {R : β → γ → Prop} {f : α → β} {g : α → γ} : ∀ {l : List α}, (∀ x ∈ l, R (f x) (g x)) → Paired R (l.map f) (l.map g)
  | [], _ => .nil
  | x :: l, h => .cons (h x List.mem_cons_self) (paired_map fun y hy => h y (List.mem_cons_of_mem _ hy))
theorem erase_perm {α : Type} {l : List α} {i : Nat} (h : i < l.length) : (l[i] :: l.eraseIdx i).Perm l := by
  rw [List.eraseIdx_eq_take_drop_succ]
  have e : l.take i ++ l[i] :: l.drop (i + 1) = l := by rw [List.getElem_cons_drop h, List.take_append_drop]
  exact (List.perm_middle.symm).trans (by rw [e])
theorem map_erase {α β : Type} (f : α → β) (l : List α) (i : Nat) : (l.map f).eraseIdx i = (l.eraseIdx i).map f := by
  rw [List.eraseIdx_eq_take_drop_succ, List.eraseIdx_eq_take_drop_succ, List.map_append, List.map_take, List.map_drop]
theorem szl {n : Nat} (h : Nat.ble n 100000 = true := by rfl) : n ≤ sizeLine := Nat.le_trans (Nat.le_of_ble_eq_true h) (by decide)
theorem szn {n : Nat} (h : n ≤ 100000) : n ≤ sizeLine := Nat.le_trans h (by decide)
theorem szn' {n : Nat} (h : n < 100000) : n < sizeLine := Nat.lt_of_lt_of_le h (by decide)
theorem ixN_nat {n j : Nat} (hj : j < n) : ixN n (j : Int) = some j := by
  unfold ixN
  rw [if_pos (by omega), if_pos (by omega)]
  simp
theorem ixN_int {n : Nat} {i : Int} (h0 : 0 ≤ i) (h : i < n) : ixN n i = some i.toNat := by
  unfold ixN
  rw [if_pos h0, if_pos h]
theorem atI_int {α : Type} {xs : List α} {i : Int} (h0 : 0 ≤ i) (h : i < xs.length) : atI xs i = some (xs[i.toNat]'(by omega)) := by
  obtain ⟨j, rfl⟩ := Int.eq_ofNat_of_zero_le h0
  exact atI_nat (List.getElem?_eq_getElem (by omega))
theorem atI_ex {α : Type} {xs : List α} {i : Int} (h0 : 0 ≤ i) (h : i < xs.length) : ∃ x ∈ xs, atI xs i = some x := ⟨_, List.getElem_mem _, atI_int h0 h⟩

/-! ### None, or a text; sets of texts -/
def ov : Option Str → V
  | none => .non
  | some z => .str z
theorem setOf_none {P : Program} {w : World} {h : Heap} {a : Addr} {S : Key → Bool} {n : Nat} (R : h.SetOf (mixKind P w) a S n) : h.SetOf (noneKind P w) a (fun o => match o with | none => false | some k => S k) n := by
  obtain ⟨o, es, ep, t, ho, hx, hd, el, mem, b, f, z⟩ := R
  refine ⟨o, es, ep, t, ho, hx, hd, fun e he => ?_, fun k => ?_, b, f, z⟩
  · obtain ⟨⟨k, h1, h2⟩, h3⟩ := el e he
    exact ⟨⟨some k, h1, h2⟩, h3⟩
  · cases k with
    | some k => exact mem k
    | none =>
      refine ⟨fun q => (by cases q), fun ⟨e, he, q⟩ => ?_⟩
      obtain ⟨⟨k, h1, _⟩, _⟩ := el e he
      have h1 : keyIs k e.2 = true := h1
      rw [nk_none q] at h1
      exact absurd h1 (keyIs_none k)
def inO (S : Key → Bool) : Option Str → Bool
  | none => false
  | some z => S (.inr z)
/-- x in s, x None or a text -/
def rInO (P : Program) (w : World) : R2 := fun x y H Q => ∃ (o : Option Str) (a : Addr) (S : Key → Bool) (n : Nat), x = ov o ∧ y = V.ref a ∧ H a = some (SetK P w a S n) ∧ Q (.bl (inO S o)) H
theorem or_inO {X : Cx} : OpR X (compareOp .In) (rInO X.prog X.w) := by
  intro pins s σ H x y v u Q I rx ry h
  obtain ⟨o, a, S, n, rfl, rfl, ha, q⟩ := h
  cases ry
  cases o with
  | none =>
    cases (show v = Value.none from rx)
    exact wpAny_inSet_of (knd := noneKind X.prog X.w) (k := none) rfl rfl (setOf_none (setK_get I ha)) ⟨.bl false, H, I.tok _, rfl, q⟩
  | some z => exact wpAny_inSet_of (knd := mixKind X.prog X.w) (k := .inr z) (kV_is (k := .inr z) rx) (key_scan (k := .inr z) rx) (setK_get I ha) ⟨.bl (S (.inr z)), H, I.tok _, rfl, q⟩
/-- a dict comprehension over what walks -/
theorem dc_it {J : It} {n : Nat} {G : Hp → Prop} {Y : Nat → Hp → V → Hp → Prop} (w : Walk J n G Y) {g : TG} {tt : TT} {tk tv : TE} {vs : List Nat} {σ : L2.St} {H1 : Hp} {D : Addr} {Qd : Hp → Prop} (Pv : Nat → Hp → Prop) (h0 : Pv 0 (upd H1 D (.dK []))) (hG : ∀ i H, i ≤ n → Pv i H → G H)
    (hs : ∀ i x H H', i < n → Pv i H → Y i H x H' → g x (wipe σ vs) H' fun σ2 H2 => wipe σ2 vs = wipe σ vs ∧ tt σ2 H2 fun b H3 =>
      if b = true then tk σ2 H3 fun y H4 => tv σ2 H4 fun z H5 => ∃ kvs k, y = kV k ∧ H5 D = some (.dK kvs) ∧ kvs.length < sizeLine ∧ Pv (i + 1) (upd H5 D (.dK (putK kvs k z))) else Pv (i + 1) H3) (hd : ∀ H, Pv n H → Qd H) :
    ∃ W : Nat → Nat → Hp → Prop, (∃ m, W 0 m (upd H1 D (.dK []))) ∧ ∀ i m H, W i m H →
      (J.stop i H ∧ Qd H) ∨ (J.go i H ∧ ∃ Nx : Hp → Prop, (∀ H', Nx H' → ∃ m', m' < m ∧ W (i + 1) m' H') ∧ ∀ x H', J.yld i H x H' → g x (wipe σ vs) H' fun σ2 H2 => wipe σ2 vs = wipe σ vs ∧ tt σ2 H2 fun b H3 =>
        if b = true then tk σ2 H3 fun y H4 => tv σ2 H4 fun z H5 => ∃ kvs k, y = kV k ∧ H5 D = some (.dK kvs) ∧ kvs.length < sizeLine ∧ Nx (upd H5 D (.dK (putK kvs k z))) else Nx H3) := by
  refine ⟨fun i m H => m + i = n ∧ Pv i H, ⟨n, rfl, h0⟩, fun i m H hw => ?_⟩
  obtain ⟨e, p⟩ := hw
  by_cases hlt : i < n
  · exact .inr ⟨w.goes i H hlt (hG i H (by omega) p), Pv (i + 1), fun H' p' => ⟨m - 1, by omega, by omega, p'⟩, fun x H' y => hs i x H H' hlt p (w.yields i H x H' hlt (hG i H (by omega) p) y)⟩
  · have e2 : i = n := by omega
    rw [e2] at p ⊢
    exact .inl ⟨w.stops H (hG n H (Nat.le_refl _) p), hd H p⟩

/-! ### classes and methods of the text -/
structure Mr (P : Program) (w : World) (K : PySem.W.Frag) (mg : Str → Option Value) (base : Heap) (k : Nat) (x : Str) (C : Addr) (sp : Sp) : Prop where
  ex : ∃ (f : Addr) (fd : FuncData) (ps : List Str), Mk K C f ∧ FnOk P w K mg base CX0 k f fd ps sp ∧ mg x = some (.ref C) ∧ Binds K fd ps []
structure Mt (P : Program) (w : World) (K : PySem.W.Frag) (mg : Str → Option Value) (base : Heap) (k : Nat) (C : Addr) (m : Str) (sp : Sp) : Prop where
  ex : ∃ (f : Addr) (fd : FuncData) (ps : List Str), Cls K C ∧ Meth K C m f ∧ FnOk P w K mg base CX0 k f fd ps sp ∧ Binds K fd ps []
section
variable {X : Cx} {k j : Nat} {C : Addr} {x m : Str} {sp : Sp} {p pos apos : Pos} {e o : Expr} {es : List Expr} {ta : TE} {t : TA}
theorem pe_mr (c : Mr X.prog X.w X.K X.mg X.base k x C sp) (hr : Room j X.A) (hk : k + 1 ≤ j) (hg : Gl X x) (ha : PA X (e :: es) t)
    (hdb : (x == ("__debug__" : Str)) = false := by decide) (he : starEach (e :: es) X.env = (false, eval e X.env) :: starEach es X.env := by rfl) (hpl : (backTo pos (starEach es X.env)).any (·.1) = false := by rfl) :
    PE X (.Call (.Name x p) (e :: es) [] pos) (tMake C sp [] E0 t) := by
  obtain ⟨f, fd, ps, M, F, hm, b⟩ := c.ex
  exact pe_make M F (hr.mono hk) hg hm b .nil pass0 ha hdb he hpl
theorem pe_me {pl : Sem Bool} (c : Mt X.prog X.w X.K X.mg X.base k C m sp) (hr : Room j X.A) (hk : k ≤ j) (he : PE X o ta) (ha : PA X (e :: es) t)
    (hst : starEach (e :: es) X.env = (false, eval e X.env) :: starEach es X.env := by rfl) (hpl : (backTo pos (starEach es X.env)).any (·.1) = false := by rfl)
    (ht : eval (.Call (.Attribute o m apos) (e :: es) [] pos) X.env = (do
      let ov ← eval o X.env
      standAt apos.atName
      let (f, first) ← holding [ov] (getMethod ov m pl)
      callWith pos f first (backTo pos (starEach (e :: es) X.env)) (backToKw pos (keywordEach [] X.env))) := by rfl) :
    PE X (.Call (.Attribute o m apos) (e :: es) [] pos) (tMeth C m sp [] E0 ta t) := by
  obtain ⟨f, fd, ps, hc, hm, F, b⟩ := c.ex
  exact pe_meth (pl := pl) he hc hm F (hr.mono hk) b .nil pass0 ha hst hpl ht
theorem pe_me0 {pl : Sem Bool} (c : Mt X.prog X.w X.K X.mg X.base k C m sp) (hr : Room j X.A) (hk : k ≤ j) (he : PE X o ta)
    (ht : eval (.Call (.Attribute o m apos) [] [] pos) X.env = (do
      let ov ← eval o X.env
      standAt apos.atName
      let (f, first) ← holding [ov] (getMethod ov m pl)
      callWith pos f first (backTo pos (starEach [] X.env)) (backToKw pos (keywordEach [] X.env))) := by rfl) :
    PE X (.Call (.Attribute o m apos) [] [] pos) (tMeth C m sp [] E0 ta tNil) := by
  obtain ⟨f, fd, ps, hc, hm, F, b⟩ := c.ex
  exact pe_meth0 (pl := pl) he hc hm F (hr.mono hk) b .nil pass0 ht
end
section
variable {σ : L2.St} {H : Hp} {Q : VK} {ta tv te : TE} {t : TA} {n bk ct : L2.St → Hp → Prop} {rt : VK} {K : PySem.W.Frag} {C : Addr} {sp : Sp} {E : XK} {m f : Str} {wi : TI} {g : TG} {tt : TT} {tk : TE} {vs : List Nat}
theorem rd_make (k : t σ H fun vs H1 => ∀ x dx, H1 x = none → H1 dx = none → dx ≠ x → sp (.ref x :: (vs ++ [])) (upd (upd H1 dx (.own x)) x (.ins C dx [])) (fun v H2 => v = .non ∧ Q (.ref x) H2) E) : tMake C sp [] E t σ H Q := k
theorem rd_meth (k : ta σ H fun x H1 => ∃ a dx fs, x = .ref a ∧ H1 a = some (.ins C dx fs) ∧ fs.lookup m = none ∧ t σ H1 fun vs H2 => sp (x :: (vs ++ [])) H2 Q E) : tMeth C m sp [] E ta t σ H Q := k
theorem rd_fld (k : ta σ H fun x H1 => ∃ a C dx fs v, x = .ref a ∧ H1 a = some (.ins C dx fs) ∧ Cls K C ∧ NoAttr K C f ∧ fs.lookup f = some v ∧ Q v H1) : tFld K ta f σ H Q := k
theorem rd_sfld (k : tv σ H fun y H1 => ta σ H1 fun x H2 => ∃ a C dx fs, x = .ref a ∧ H2 a = some (.ins C dx fs) ∧ Cls K C ∧ NoAttr K C f ∧ fs.length < 1000 ∧ n σ (upd H2 a (.ins C dx (putF f y fs)))) : sFld K ta tv f ⟨n, rt, bk, ct⟩ σ H := k
theorem rd_dc (k : wi σ H fun J H1 => ∀ D, H1 D = none → ∃ W : Nat → Nat → Hp → Prop, (∃ m, W 0 m (upd H1 D (.dK []))) ∧ ∀ i m H, W i m H →
  (J.stop i H ∧ Q (.ref D) H) ∨ (J.go i H ∧ ∃ Nx : Hp → Prop, (∀ H', Nx H' → ∃ m', m' < m ∧ W (i + 1) m' H') ∧ ∀ x H', J.yld i H x H' → g x (wipe σ vs) H' fun σ2 H2 => wipe σ2 vs = wipe σ vs ∧ tt σ2 H2 fun b H3 =>
    if b = true then tk σ2 H3 fun y H4 => tv σ2 H4 fun z H5 => ∃ kvs k, y = kV k ∧ H5 D = some (.dK kvs) ∧ kvs.length < sizeLine ∧ Nx (upd H5 D (.dK (putK kvs k z))) else Nx H3)) : tDc wi g tt tk tv vs σ H Q := k
theorem rd_items (k : te σ H fun x H1 => LiI.rItemsL x H1 Q) : LiI.tListItems te σ H Q := k
theorem rd_sadd {P : Program} {w : World} (k : ta σ H fun x H1 => (∃ a S n, x = V.ref a ∧ H1 a = some (SetK P w a S n)) ∧ t σ H1 fun xs H2 => rSAddK P w x xs H2 Q) : tSAddK P w ta t σ H Q := k
theorem rd_ivals {td : TE} {R : It → Hp → Prop} (k : td σ H fun x H1 => ∃ d o kvs, x = .ref d ∧ H1 d = some (.frz o (.dK kvs)) ∧ R (Itd d o kvs) H1) : iVals td σ H R := k
end
/-! ### data, the same at two places -/
theorem ex_same {K : PySem.W.Frag} {H H' : Hp} (k : Same H H') {a : Addr} {xs : List V} (h : SqT K H a xs) : SqT K H' a xs := by
  rcases h with (h | ⟨o, h⟩) | h
  · exact .inl (.inl (k _ _ h))
  · exact .inl (.inr ⟨o, k _ _ h⟩)
  · exact .inr h
mutual
theorem dp_kp {K : PySem.W.Frag} {H H' : Hp} (k : Same H H') : ∀ (d : PyData) (v : V), Dp K H v d → Dp K H' v d
  | .none, _, h => by cases h; exact .non
  | .bool b, _, h => by cases h; exact .bl b
  | .int i, _, h => by cases h; exact .int i
  | .str x, _, h => by cases h; exact .str x
  | .list ds, _, h => by
    cases h with
    | lst hs ha => exact .lst (k.seq hs) (dpa_kp k ds _ ha)
  | .tuple ds, _, h => by
    cases h with
    | tup hs ha => exact .tup (ex_same k hs) (dpa_kp k ds _ ha)
  | .dict _, _, h => by cases h
theorem dpa_kp {K : PySem.W.Frag} {H H' : Hp} (k : Same H H') : ∀ (ds : List PyData) (vs : List V), DpAll K H vs ds → DpAll K H' vs ds
  | [], _, h => by cases h; exact .nil
  | d :: ds, _, h => by
    cases h with
    | cons h1 h2 => exact .cons (dp_kp k d _ h1) (dpa_kp k ds _ h2)
end
theorem dpa_len {K : PySem.W.Frag} {H : Hp} : ∀ {ds : List PyData} {vs : List V}, DpAll K H vs ds → vs.length = ds.length
  | [], _, h => by cases h; rfl
  | d :: ds, _, h => by
    cases h with
    | cons h1 h2 => rw [List.length_cons, List.length_cons, dpa_len h2]
theorem dpa_get {K : PySem.W.Frag} {H : Hp} : ∀ {ds : List PyData} {vs : List V}, DpAll K H vs ds → ∀ {i : Nat} {x : V} {d : PyData}, vs[i]? = some x → ds[i]? = some d → Dp K H x d
  | [], _, h, i, x, d, hx, hd => by cases hd
  | e :: ds, _, h, i, x, d, hx, hd => by
    cases h with
    | cons h1 h2 =>
      cases i with
      | zero => cases hx; cases hd; exact h1
      | succ i => exact dpa_get h2 hx hd
theorem dpa_of {K : PySem.W.Frag} {H : Hp} {α : Type} {f : α → V} {g : α → PyData} : ∀ {l : List α}, (∀ x ∈ l, Dp K H (f x) (g x)) → DpAll K H (l.map f) (l.map g)
  | [], _ => .nil
  | x :: l, h => .cons (h x List.mem_cons_self) (dpa_of fun y hy => h y (List.mem_cons_of_mem _ hy))
theorem ty_list {K : PySem.W.Frag} {H : Hp} {a : Addr} {xs : List V} (h : SqL K H a xs) : TyX K H (.ref a) (.type "list") := by
  rcases h with (h | ⟨o, h⟩) | ⟨o, its, n, e, c, _⟩
  · exact .base (.lst h)
  · exact .base (.frz h)
  · exact .kList e c
theorem ty_tuple {K : PySem.W.Frag} {H : Hp} {a : Addr} {xs : List V} (h : SqT K H a xs) : TyX K H (.ref a) (.type "tuple") := by
  rcases h with (h | ⟨o, h⟩) | ⟨o, its, n, e, c, _⟩
  · exact .base (.tup h)
  · exact .fTuple h
  · exact .kTuple e c
def tyOf : PyData → String
  | .none => "NoneType"
  | .bool _ => "bool"
  | .int _ => "int"
  | .str _ => "str"
  | .list _ => "list"
  | .tuple _ => "tuple"
  | .dict _ => "dict"
theorem ty_dp {K : PySem.W.Frag} {H : Hp} {v : V} {d : PyData} (h : Dp K H v d) : TyX K H v (.type (tyOf d)) := by
  cases h with
  | non => exact .base .non
  | bl b => exact .base (.bl b)
  | int i => exact .base (.int i)
  | str x => exact .base (.str x)
  | lst hs _ => exact ty_list hs
  | tup hs _ => exact ty_tuple hs
/-- data of at most n levels, lists and tuples short -/
def Sm : Nat → PyData → Prop
  | _, .none => True
  | _, .bool _ => True
  | _, .int _ => True
  | _, .str z => PyData.strOk z = true
  | n + 1, .list ds => ds.length ≤ 1000 ∧ ∀ e ∈ ds, Sm n e
  | n + 1, .tuple ds => ds.length ≤ 1000 ∧ ∀ e ∈ ds, Sm n e
  | _, _ => False
theorem walk_zipT {K : PySem.W.Frag} {a b : Addr} {xs ys : List V} {n : Nat} (hn : n = min xs.length ys.length) : Walk (RZ.ItzT K a b) n (fun H => SqT K H a xs ∧ SqT K H b ys) (YPair (fun i => xs[i]?) (fun i => ys[i]?)) := by
  subst hn
  refine ⟨fun i H hi q => ⟨xs, ys, xs[i]'(by omega), ys[i]'(by omega), q.1, q.2, List.getElem?_eq_getElem _, List.getElem?_eq_getElem _⟩, fun H q => ⟨xs, ys, q.1, q.2, by omega⟩, fun i H v H' hi q y => ?_⟩
  obtain ⟨T, x, y, h1, h2, h3, h4, h5⟩ := y
  exact ⟨T, x, y, h1, h2, h3, h4 xs q.1, h5 ys q.2⟩
/-! ### built-in names that the module leaves -/
structure Blt (mg : Str → Option Value) : Prop where
  len : mg "len" = none
  isinstance : mg "isinstance" = none
  str : mg "str" = none
  all : mg "all" = none
  enumerate : mg "enumerate" = none
  range : mg "range" = none
  bool : mg "bool" = none
  tuple : mg "tuple" = none
  dict : mg "dict" = none
  list : mg "list" = none
  sorted : mg "sorted" = none
  set : mg "set" = none
  zip : mg "zip" = none
  int : mg "int" = none
  min : mg "min" = none
  repr : mg "repr" = none
  ValueError : mg "ValueError" = none
  super : mg "super" = none
theorem blt_mk {K : PySem.W.Frag} {h : Heap} {mg : Str → Option Value} (X : K.In h) (G : h.Ns mainGlobals mg)
    (z1 : PySem.W.nsIn K mainGlobals "len" = some none) (z2 : PySem.W.nsIn K mainGlobals "isinstance" = some none) (z3 : PySem.W.nsIn K mainGlobals "str" = some none) (z4 : PySem.W.nsIn K mainGlobals "all" = some none)
    (z5 : PySem.W.nsIn K mainGlobals "enumerate" = some none) (z6 : PySem.W.nsIn K mainGlobals "range" = some none) (z7 : PySem.W.nsIn K mainGlobals "bool" = some none) (z8 : PySem.W.nsIn K mainGlobals "tuple" = some none)
    (z9 : PySem.W.nsIn K mainGlobals "dict" = some none) (z10 : PySem.W.nsIn K mainGlobals "list" = some none) (z11 : PySem.W.nsIn K mainGlobals "sorted" = some none) (z12 : PySem.W.nsIn K mainGlobals "set" = some none)
    (z13 : PySem.W.nsIn K mainGlobals "zip" = some none) (z14 : PySem.W.nsIn K mainGlobals "int" = some none) (z15 : PySem.W.nsIn K mainGlobals "min" = some none) (z16 : PySem.W.nsIn K mainGlobals "repr" = some none)
    (z17 : PySem.W.nsIn K mainGlobals "ValueError" = some none) (z18 : PySem.W.nsIn K mainGlobals "super" = some none) : Blt mg :=
  ⟨PySem.W.mg_none_of X G z1, PySem.W.mg_none_of X G z2, PySem.W.mg_none_of X G z3, PySem.W.mg_none_of X G z4, PySem.W.mg_none_of X G z5, PySem.W.mg_none_of X G z6, PySem.W.mg_none_of X G z7, PySem.W.mg_none_of X G z8, PySem.W.mg_none_of X G z9,
   PySem.W.mg_none_of X G z10, PySem.W.mg_none_of X G z11, PySem.W.mg_none_of X G z12, PySem.W.mg_none_of X G z13, PySem.W.mg_none_of X G z14, PySem.W.mg_none_of X G z15, PySem.W.mg_none_of X G z16, PySem.W.mg_none_of X G z17, PySem.W.mg_none_of X G z18⟩
end Nn

namespace Nn
open PySem PySem.Spec PyProof.Rows L2
/-! ### an error that is caught and kept -/
/-- an error of the class cls, its dict d, at a -/
def ExH (cls : Value) (d : Option Addr) (a : Addr) : HO := .ext fun h => ∃ (o : Obj) (fs : Array Value), h.get? a = some o ∧ Zc cls d o ∧ o.data = .fields fs
theorem exH_ok {P : Program} {w : World} {H : Hp} {h : Heap} {a : Addr} {cls : Value} {d : Option Addr} {o : Obj} {fs : Array Value} (e : h.get? a = some o) (z : Zc cls d o) (f : o.data = .fields fs) : ObjOk P w H h a (ExH cls d a) :=
  ⟨⟨o, fs, e, z, f⟩, ⟨o, e⟩, fun _ _ ⟨o, v, q, r⟩ k => ⟨o, v, k o q, r⟩⟩
section
variable {X : Cx} {pins : List (Addr × Obj)} {σ : L2.St} {H : Hp} {s : Shared}
/-- an object that stands already is tracked from now on; it is newer than the def's entry -/
theorem inv_track {a : Addr} {φ : Heap → Prop} (I : Inv X pins σ H s) (h0 : X.s_0.heap.get? a = none) (na : H a = none) (nL : a ≠ X.env.locals) (nC : ∀ x c, X.env.cells.lookup x = some c → c ≠ a) (nP : ∀ p ∈ X.pn ++ pins, p.1 ≠ a) (new : ObjOk X.prog X.w H s.heap a (.ext φ)) :
    Inv X pins σ (upd H a (.ext φ)) s := by
  have old : ∀ {b : Addr} {o : HO}, H b = some o → upd H a (.ext φ) b = some o := fun {b o} e => by rw [upd_ne (ne_of_none e na)]; exact e
  have non : ∀ {b : Addr}, H b = none → b ≠ a → upd H a (.ext φ) b = none := fun {b} e n => by rw [upd_ne n]; exact e
  refine ⟨I.ok, I.os, I.bare, ⟨I.base.keep, I.base.slot, fun b o e n x => non (I.base.free b o e n x) (fun q => by rw [q, h0] at e; cases e), I.base.there, fun b xs q => old (I.base.tups b xs q), fun b o u q => old (I.base.frzs b o u q), fun b ps q => ?_⟩, I.loc, I.cell, non I.free (Ne.symm nL), fun x c e => non (I.freeC x c e) (nC x c e), fun p hp => ?_, fun b o e => ?_, I.len⟩
  · obtain ⟨m, r⟩ := I.base.tbls b ps q
    exact ⟨m, old r⟩
  · obtain ⟨p1, p2, p3, p4, p5⟩ := I.pin p hp
    exact ⟨p1, non p2 (nP p hp), p3, p4, p5⟩
  · by_cases hb : b = a
    · subst hb
      rw [upd_same] at e
      cases e
      exact new
    · rw [upd_ne hb] at e
      exact (I.hok b o e).stay (fun _ _ _ q => q) (fun _ q => old q) fun _ _ q => old q
end
/-- the wish of a body whose errors are all caught and kept: slot i is the clause's name -/
def wKeep (K : PySem.W.Frag) (c : Value) (i : Nat) (ts : Addr → Value → Option Addr → TS) (D : Ends) : WX := fun cls d σ H =>
  PySem.W.exmOne K cls c = some true ∧ ∀ a, H a = none → ts a cls d { nx := fun σ' H' => H' a = none → D.nx (σ'.set i none) (upd H' a (ExH cls d a)), rt := fun _ _ => False, bk := fun _ _ => False, ct := fun _ _ => False } (σ.set i (some (.ref a))) H
section
variable {X : Cx} {x n : Str} {c : Value} {i : Nat} {body suite : List Stmt} {b₀ : Stmt} {np pos pos' : Pos} {tb : WX → TS} {ts : Addr → Value → Option Addr → TS}
theorem ps_try_keep (hs : X.stack = X.env :: X.outer) (hf : X.env.frame = some X.env.locals) (hN : X.N.Nodup) (hi : X.N[i]? = some n) (hln : X.env.kindOf n = some .local) (hc : Names X x c) (hex : X.ex = [])
    (hb : ∀ (W : WX) (pn : List (Addr × Obj)) (xe : Value → Shared → Prop), Takes (X.tr pn xe) W → PassesOwn (model X.prog X.w) X.A X.env xe → PSs (X.tr pn xe) body (tb W))
    (hsu : ∀ (a : Addr) (oe : Obj) (cls : Value) (d : Option Addr) (pn : List (Addr × Obj)), Zc cls d oe → (∃ vs, oe.data = .fields vs) → PSs (X.suite a ((a, oe) :: pn)) (b₀ :: suite) (ts a cls d)) :
    PS X (.Try body [.ExceptHandler (some (.Name x np)) (some n) (b₀ :: suite) pos'] [] [] pos) (fun D σ H => tb (wKeep X.K c i ts D) D σ H) := by
  refine ⟨fun pins s σ H D I h => wpAny_Try_except ?_⟩
  have frm : X.A.frames = some (X.env :: X.outer) := I.ok.frames.trans (congrArg some hs)
  refine wpAny_mono ((hb (wKeep X.K c i ts D) (X.pn ++ pins) _ ?take PassesOwn.looking).run [] s σ H D (I.toTry _) h) (fun r t pr => ?thru) (fun _ _ z => z)
  case thru =>
    have back : ∀ {w : Value → Shared → Prop} {σ' : L2.St} {H' : Hp}, Inv (X.tr (X.pn ++ pins) w) [] σ' H' t → Inv X pins σ' H' t := fun J => J.ofTry I.ok
    cases r with
    | next => obtain ⟨_, _, J, q⟩ := pr; exact wpAny_execs_nil ⟨_, _, back J, q⟩
    | ret u => obtain ⟨_, _, _, J, ru, q⟩ := pr; exact ⟨_, _, _, back J, ru, q⟩
    | brk => obtain ⟨_, _, J, q⟩ := pr; exact ⟨_, _, back J, q⟩
    | cont => obtain ⟨_, _, J, q⟩ := pr; exact ⟨_, _, back J, q⟩
  case take =>
    rintro u t ⟨a, G, sI, pn', τ, H1, cls, d, rfl, J0, grd, lv, air, na, eos, gb, hm, hsuite⟩
    have J : Inv X pins τ H1 sI := J0.ofTry I.ok
    have air : Sky G (X.env :: X.outer) a (Zc cls d) X.env.locals t.heap := hs ▸ air
    refine Sky.land Zc.steady frm hf air fun g1 fly up1 => ?_
    obtain ⟨o1, f1, e1, z1, d1⟩ := fly.there
    -- the error is no frame, and new
    have aF : a ∉ frs (X.env :: X.outer) := fun hm' => by
      obtain ⟨_, o, e, no⟩ := fly.2.2.1.mem hm'
      rw [e1] at e
      cases e
      exact no _ d1
    have aL : a ≠ X.env.locals := fun q => aF (List.mem_filterMap.mpr ⟨X.env, List.mem_cons_self, hf.trans (congrArg some q.symm)⟩)
    have aS : a ∉ X.fs := fun q => by
      obtain ⟨e, he, r⟩ := List.mem_filterMap.mp q
      exact aF (List.mem_filterMap.mpr ⟨e, List.mem_cons_of_mem _ he, r⟩)
    have aI : sI.heap.get? a = none := by
      cases q : sI.heap.get? a with
      | none => rfl
      | some o =>
        have q2 := grd a o q (hs ▸ aF)
        rw [fly.2.1] at q2
        cases q2
    have a0 : X.s_0.heap.get? a = none := by
      cases q : X.s_0.heap.get? a with
      | none => rfl
      | some o =>
        obtain ⟨o', q2⟩ := J.base.there a o q (by rw [hex]; simp)
        rw [aI] at q2
        cases q2
    have aC : ∀ y k, X.env.cells.lookup y = some k → k ≠ a := fun y k e q => by
      obtain ⟨v, o, q2, _⟩ := J.cell y k e
      rw [q, aI] at q2
      cases q2
    have aP : ∀ p ∈ X.pn ++ pins, p.1 ≠ a := fun p hp q => by
      have q2 := (J.pin p hp).1
      rw [q, aI] at q2
      cases q2
    have J1 : Inv X pins τ H1 { t with heap := g1 } := J.landed grd fly.1 (lv.trans up1) eos gb
    have S1 := J1.suite e1 d1 na aL aS
    have looks : PySem.W.Looks (model X.prog X.w) g1 (typeOf (.ref a)) cls := fun _ _ _ _ k q => wpAny_typeOf_ref (k _ _ e1) (by rw [z1.1]; exact q)
    have matched := PySem.W.exm_one (M := model X.prog X.w) J1.kIn looks hm
    -- the clause names the class
    refine wpAny_handleBy_cons (codeAny_handlers_test ?_) (by intro q; cases q)
    have clause : ∀ {Q : Value → Shared → Prop} {E : Value → Shared → Prop}, Q c { t with heap := g1 } → wpAny (model X.prog X.w) (X.A.mark (some (.ref a))) (eval (.Name x np) X.env) Q E { t with heap := g1 } := fun q => by
      rcases hc with ⟨hg, hd, hv | ⟨hv, hbt, hne⟩⟩
      · exact ld_glob (X := X.suite a ((a, o1) :: (X.pn ++ pins))) S1 hg hv q hd
      · exact ld_blt (X := X.suite a ((a, o1) :: (X.pn ++ pins))) S1 hg hv hbt q hne hd
    refine clause (matched.here (codeAny_handlers_suite_as (HandSPX.lands_againZ fly fun g2 fly2 up2 => ?_)))
    obtain ⟨o2, f2, e2, z2, d2⟩ := fly2.there
    have J2 : Inv X pins τ H1 { t with heap := g2 } := J.landed grd fly2.1 ((lv.trans up1).trans up2) eos gb
    -- the suite, then the name goes; the error stays
    refine store_ok (X := X.suite a ((a, o2) :: (X.pn ++ pins))) (v := .ref a) (J2.suite e2 d2 na aL aS) hN hi (.inl hln) rfl (fun s5 S5 => ?_) (.inr hln)
    refine wpAny_mono ((hsu a o2 cls d (X.pn ++ pins) z2 ⟨_, d2⟩).run [] s5 _ H1 _ S5 (hsuite a na)) (fun fl s6 pr => ?_) (fun _ _ q => False.elim q)
    cases fl with
    | next =>
      obtain ⟨τ6, H6, S6, q6⟩ := pr
      obtain ⟨p1, p2, _⟩ := S6.pin (a, o2) (List.mem_append_left _ List.mem_cons_self)
      exact gone_ok (inv_track (S6.unsuite I.ok) a0 p2 aL aC aP (exH_ok p1 z2 d2)) hN hi hln fun s7 J7 => ⟨_, _, J7, q6 p2⟩
    | ret u => obtain ⟨_, _, _, _, _, q⟩ := pr; exact q.elim
    | brk => obtain ⟨_, _, _, q⟩ := pr; exact q.elim
    | cont => obtain ⟨_, _, _, q⟩ := pr; exact q.elim
end
/-! ### a kept error: isinstance, a field -/
/-- how a kept error stands: its class C, its dict -/
inductive ErrAt (H : Hp) (a C : Addr) : Option Addr → List (Str × V) → Prop where
  | bare (h : H a = some (ExH (.ref C) none a)) : ErrAt H a C none []
  | own {d : Addr} {fs : List (Str × V)} (h : H a = some (ExH (.ref C) (some d) a)) (hd : H d = some (.xd fs)) : ErrAt H a C (some d) fs
theorem ErrAt.inst {X : Cx} {pins : List (Addr × Obj)} {σ : L2.St} {H : Hp} {s : Shared} {a C : Addr} {d : Option Addr} {fs : List (Str × V)} (I : Inv X pins σ H s) (h : ErrAt H a C d fs) : ∃ o od, PySem.W.InstAt s.heap a o C od := by
  cases h with
  | bare h =>
    obtain ⟨⟨o, vs, e, z, f⟩, _⟩ := (show ObjOk X.prog X.w H s.heap a (ExH (.ref C) none a) from I.hok a _ h)
    exact ⟨o, none, e, z.1, by unfold PySem.W.notCls; rw [f] <;> rfl, by rw [z.2] <;> trivial⟩
  | @own d fs h hd =>
    obtain ⟨⟨o, vs, e, z, f⟩, _⟩ := (show ObjOk X.prog X.w H s.heap a (ExH (.ref C) (some d) a) from I.hok a _ h)
    obtain ⟨m, hns, _⟩ := (show ObjOk X.prog X.w H s.heap d (.xd fs) from I.hok d _ hd)
    obtain ⟨od, ho, _⟩ := lookIn_ns hns
    exact ⟨o, some od, e, z.1, by unfold PySem.W.notCls; rw [f] <;> rfl, by rw [z.2]; exact ho⟩
/-- isinstance(e, c), e a kept error -/
def rIsH (K : PySem.W.Frag) : List V → Hp → VK → Prop := fun xs H Q => ∃ (a C : Addr) (d : Option Addr) (fs : List (Str × V)) (c : V) (u : Value) (b : Bool), xs = [.ref a, c] ∧ ClsV c u ∧ ErrAt H a C d fs ∧ ExcC K C ∧ PySem.W.kitOne K (.ref C) u = some b ∧ Q (.bl b) H
theorem call_isH {X : Cx} : CallR X (.builtin "isinstance") (rIsH X.K) := by
  intro pins s σ H xs us Q I r h
  obtain ⟨a, C, d, fs, c, u, b, rfl, k, hE, hC, e, q⟩ := h
  obtain ⟨u1, u2, rfl, r1, r2⟩ := vals2 r
  obtain rfl := k.eq r2
  cases (show u1 = Value.ref a from r1)
  obtain ⟨o, od, J⟩ := hE.inst I
  obtain ⟨cd, hcd, _⟩ := PySem.W.any_some hC.hd
  exact PySem.W.kia_one (PySem.W.kitx_exc (by rw [hcd]; rfl) hC.hg hC.hk hC.hs hC.ha hC.hn hC.ht hC.hm) I.kIn J e (fun z => nomatch z) fun tk => ⟨.bl b, H, I.tok tk, rfl, q⟩
/-- e.f, e a kept error -/
def tFldH (K : PySem.W.Frag) (te : TE) (f : Str) : TE := fun σ H Q => te σ H fun x H1 => ∃ (a C d : Addr) (fs : List (Str × V)) (v : V), x = .ref a ∧ ErrAt H1 a C (some d) fs ∧ ExcC K C ∧ PySem.W.findIn K (.ref C) f = some none ∧ fs.lookup f = some v ∧ Q v H1
theorem pe_fldH {X : Cx} {e : Expr} {te : TE} {f : Str} {pos : Pos} (he : PE X e te) (hb : attributeBase e f X.env (eval e X.env) = eval e X.env) : PE X (.Attribute e f pos) (tFldH X.K te f) := by
  refine ⟨fun pins s σ H Q I h => attr_of hb (thn (he.run pins s σ H _ I h) fun u s1 hh => ?_)⟩
  obtain ⟨x, H1, I1, rx, a, C, d, fs, v, rfl, hE, hC, hn, hl, q⟩ := hh
  obtain rfl : u = Value.ref a := rx
  cases hE with
  | own h hd =>
    obtain ⟨⟨o, vs, e1, z, fl⟩, _⟩ := (show ObjOk X.prog X.w H1 s1.heap a (ExH (.ref C) (some d) a) from I1.hok a _ h)
    obtain ⟨m, hns, hr⟩ := (show ObjOk X.prog X.w H1 s1.heap d (.xd fs) from I1.hok d _ hd)
    obtain ⟨od, ho, hlk⟩ := lookIn_ns hns
    obtain ⟨u, hu, ru⟩ := RelO.some_of (v := v) (o := m f) (by rw [← hl]; exact hr f)
    have J : PySem.W.InstAt s1.heap a o C (some od) := ⟨e1, z.1, by unfold PySem.W.notCls; rw [fl] <;> rfl, by rw [z.2]; exact ho⟩
    exact HandSPX.exc_get I1.kIn J hC.hg hC.hk hC.hs (PySem.W.findObj_own hC.hd hn rfl (by rw [hlk, hu])) (handed_of ru) ⟨v, H1, I1.tok _, ru, q⟩
end Nn

namespace Nn
open PySem PySem.Spec PyProof.Rows L2
/-! ### an own error over an own error over ValueError, whose __init__ says super().__init__(e); self.f = v -/
/-- what the written part says of the class -/
structure SupC (K : PySem.W.Frag) (C : Addr) : Prop where
  own : OexC K C
  sup : PySem.W.ks_superIn K C C "__init__" = some (some (.builtin "ValueError.__init__"))
  sub : PySem.W.mroIn K C (.ref C) = some true
  val : PySem.W.subIn K (.ref C) (.type "ValueError") = some true
  sta : PySem.W.nsIn K PySem.cStatics "thirdparty.any" = some none
/-- .. and of its __init__ -/
structure SFun (prog : Program) (K : PySem.W.Frag) (C : Addr) (x qual : Str) (st : Stmt) (f : Addr) (fd : FuncData) : Prop where
  ex : ∃ (oc kV doc pm ct ccl cl : Value) (od an cdd cld : Option Addr) (cda cc : Addr) (osl ccs csl : Array (Option Value)) (vs : Array Value) (file : Str) (tf : Tok),
    fd = PySem.W.fnX x qual (defArgs st) (defBody st) (defScope st) [("__class__", cc)] .none kV doc pm an (.ref cda) ct ∧ K.lookup f = some ⟨oc, od, .func fd, osl⟩ ∧ PySem.W.codeIn K (.ref cda) qual = true ∧
    K.lookup cda = some ⟨ccl, cdd, .fields vs, ccs⟩ ∧ vs[2]? = some (.str file tf) ∧ ((prog.main.file : Str) == file) = true ∧ K.lookup cc = some ⟨cl, cld, .cell (some (.ref C)), csl⟩
  kp : PySem.W.keepIn K (.ref f) = true
theorem SFun.binds {prog : Program} {K : PySem.W.Frag} {C : Addr} {x qual : Str} {st : Stmt} {f : Addr} {fd : FuncData} {ps : List Str} (F : SFun prog K C x qual st f fd)
    (h : ∀ (cc : Addr) (kV doc pm : Value) (an : Option Addr) (cdv ct : Value) (us : List Value), us.length = ps.length → bindArgs (PySem.W.fnX x qual (defArgs st) (defBody st) (defScope st) [("__class__", cc)] .none kV doc pm an cdv ct) ⟨us, []⟩ = pure (ps.zip us)) : Binds K fd ps [] := by
  obtain ⟨oc, kV, doc, pm, ct, ccl, cl, od, an, cdd, cld, cda, cc, osl, ccs, csl, vs, file, tf, rfl, _⟩ := F.ex
  exact .all (h cc kV doc pm an (.ref cda) ct)
section
variable {X : Cx} {pins : List (Addr × Obj)} {σ : L2.St} {H : Hp} {s : Shared} {a C u : Addr} {us : List Value} {Q : Value → Shared → Prop} {E : Value → Shared → Prop} {A : Around}
/-- ValueError.__init__, bound to the error, called -/
theorem mw_call (T : SupC X.K C) (I : Inv X pins σ H s) (e : H a = some (exo a C none)) (hu : s.heap.get? u = some (PySem.W.kxs_mw "ValueError.__init__" a)) (hl : us.length ≤ sizeLine)
    (h : ∀ s', Inv X pins σ H s' → Q .none s') : wpAny (model X.prog X.w) A (call (.ref u) us) Q E s := by
  obtain ⟨nm, q, N, bs, bm, sn, sub, ab, col, dd, k0, k1, k2, k3, k5, hC, hbm⟩ := T.own.cls
  obtain ⟨t1, ho⟩ := exo_at I.hok e
  obtain ⟨hp, g, d, t, os⟩ := s
  refine wpAny_call (codeAny_of_tree ?_)
  show wpAny _ A.in1 (callAny (.ref u) ⟨us, []⟩) _ _ _
  simp only [callAny]
  refine wpAny_bind (wpAny_load hu ?_)
  simp only [PySem.W.kxs_mw]
  rw [if_pos (show (Value.type "method-wrapper" == Value.type "method" || Value.type "method-wrapper" == Value.type "builtin_function_or_method" || Value.type "method-wrapper" == Value.type "method-wrapper") = true by decide)]
  refine PySem.W.KFB.if_so (by decide) ?_
  refine wpAny_bind (PySem.W.check_bound_init F.excBase_ValueError.toExcCallFacts (I.kIn _ _ hC) ho rfl ?_)
  refine wpAny_bind (wpAny_pure (wpAny_pure ?_))
  refine ⟨plainId_quiet F.excBase_ValueError.init.plain _, codeAny_builtin F.excBase_ValueError.initEntry ?_⟩
  refine PySem.W.exc_init_tree (cls := .ref C) (t0 := t1) (dv := none) (c2 := .none) (c3 := .none) (b4 := .bool false) ho hl fun h' k hx _ => ?_
  have J := I.write (t' := t) (x := a) (e := a) (o := exo a C none) (by rw [e]; exact True.intro) (.inl rfl) k ⟨_, hx⟩ (exo_ok hx)
  rw [show upd H a (exo a C none) = H from funext fun b => by
    by_cases hb : b = a
    · rw [hb, upd_same, e]
    · rw [upd_ne hb]] at J
  exact h _ J
end
/-- the promise of such an __init__ -/
def spSup (C : Addr) (N : List Str) (fld : Str) (te : TE) : Sp := fun vs H Q _ => ∃ (a : Addr) (y : V), vs = [.ref a, y] ∧ H a = some (exo a C none) ∧
  tCons te tNil (NdefX.startF N vs [none]) H fun ms H1 => ms.length ≤ 1000 ∧ H1 = H ∧ ∀ dx, H dx = none → dx ≠ a → Q .non (upd (upd H dx (exd dx [(fld, y)])) a (exo a C (some dx)))
theorem sup_ok {P : Program} {w : World} {K : PySem.W.Frag} {mg : Str → Option Value} {base : Heap} {CX : CXT} {k : Nat} {x qual fld v : Str} {st : Stmt} {f C : Addr} {fd : FuncData} {N : List Str} {e : Expr} {te : TE} {p0 p1 ap pos pos2 p3 p4 p5 pos6 : Pos} {ar : Arg} {pl : Env → Sem Bool}
    (F : SFun P K C x qual st f fd) (T : SupC K C) (S : NdefX.NScope N ["self", v] ["__class__"] (defScope st)) (hm : mg "super" = none) (hno : PySem.W.findIn K (.ref C) fld = some none)
    (hst : defBody st = [.Expr (.Call (.Attribute (.Call (.Name "super" p0) [] [] p1) "__init__" ap) [e] [] pos) pos2, .Assign [.Attribute (.Name "self" p3) fld p4] (.Name v p5) pos6])
    (he : ∀ (A : Around) (outer : List Env) (s : Shared) (H : Hp) (E : XK) (cc cda : Addr), Room k (A.deeper (NdefX.envF ⟨x, qual, defArgs st, defBody st, defScope st, [("__class__", cc)], cda⟩ f s.heap.objs.size)) → PE (NdefX.ncx CX P w K mg base N ⟨x, qual, defArgs st, defBody st, defScope st, [("__class__", cc)], cda⟩ f A outer s H E) e te)
    (hs : ∀ env, starEach [e] env = (false, eval e env) :: starEach [] env)
    (hk1 : (defScope st).names.lookup ("super" : Str) = some .globalImplicit) (hk2 : (defScope st).names.lookup ("__class__" : Str) = some .free) (htop : (P.main.scope.names.lookup ("super" : Str)).isSome = false)
    (hp : ((defArgs st).posonlyargs ++ (defArgs st).args).head? = some ar) (har : ar.arg = "self") (hN0 : N[0]? = some ("self" : Str)) (hN1 : N[1]? = some v) (hv1 : (v == ("__debug__" : Str)) = false) (hv2 : (v == ("__classdict__" : Str)) = false)
    (hcall : ∀ env, eval (.Call (.Attribute (.Call (.Name "super" p0) [] [] p1) "__init__" ap) [e] [] pos) env = (do
      let ov ← attributeBase (.Call (.Name "super" p0) [] [] p1) "__init__" env (eval (.Call (.Name "super" p0) [] [] p1) env)
      standAt ap.atName
      let (f, first) ← holding [ov] (getMethod ov "__init__" (pl env))
      callWith pos f first (backTo pos (starEach [e] env)) []))
    (hint : ∀ env : Env, env.scope = defScope st → interactive env = false) (hsw : ∀ env, swapsWith (.Call (.Attribute (.Call (.Name "super" p0) [] [] p1) "__init__" ap) [e] [] pos) none pos2.line env = pure false) :
    FnOk P w K mg base CX (k + 1) f fd ["self", v] (spSup C N fld te) := by
  refine ⟨fun vs H Q E h => by obtain ⟨a, y, rfl, _⟩ := h; rfl, fun A outer s H args us vs Q E hr e0 hb r hsp => ?_⟩
  obtain ⟨a, y, rfl, ha, hq⟩ := hsp
  obtain ⟨oc, kV, doc, pm, ct, ccl, cl, od, an, cdd, cld, cda, cc, osl, ccs, csl, vs, file, tf, rfl, lk, hcd, lcd, hvs, hfile, lcc⟩ := F.ex
  have KX : K.In s.heap := e0.mod.kin.keeps fun b o e => (e0.bs b o e).1
  have lim : s.heap.NoLimit := e0.mod.nolimit.keeps fun b o e => (e0.bs b o e).1
  have hcc : H cc = none := (e0.bs _ _ (e0.mod.kin _ _ lcc)).2
  cases r with
  | @cons _ u0 _ ur r0 r' =>
  obtain rfl : u0 = Value.ref a := r0
  cases r' with
  | @cons _ u1 _ ur' r1 r'' =>
  cases r''
  have hC0 : NdefX.CellsAt [("__class__", cc)] ["__class__"] [none] s.heap H := by
    refine ⟨rfl, fun y c hc => ?_, fun x y c h1 h2 => ?_, fun i y hy => ?_⟩
    · have : c = cc := by
        simp only [List.lookup] at hc
        split at hc
        · exact (Option.some.inj hc).symm
        · cases hc
      subst this
      exact ⟨hcc, _, _, KX _ _ lcc, rfl⟩
    · have g : ∀ z : Str, List.lookup z [("__class__", cc)] = some c → z = "__class__" := fun z hz => by
        simp only [List.lookup] at hz
        split at hz
        · rename_i q
          exact by simpa using q
        · cases hz
      rw [g x h1, g y h2]
    · cases i with
      | zero =>
        cases hy
        exact ⟨cc, by simp [List.lookup], fun v hv => by cases hv⟩
      | succ i => cases hy
  refine codeAny_call_function hr.depth (KX _ _ lk) rfl S.co S.gen rfl (PySem.W.codeRec_of KX hcd) (hb _ _ _ _ ?_)
  refine wpAny_newFunctionEnv S.nocell (fun ⟨n, _⟩ hy => S.par n (List.of_mem_zip hy).1) (fun h₁ hns hsb => ⟨lim.fresh _ hsb, ?_⟩) S.kind
  show codeAny _ _ (.func (defBody st) (NdefX.envF ⟨x, qual, defArgs st, defBody st, defScope st, [("__class__", cc)], cda⟩ f s.heap.objs.size)) _ _
  refine ks_codeAny_funcAt ?_
  have kp : ∀ b o, s.heap.get? b = some o → h₁.get? b = some o := fun b o e => hsb.extBut b o (Nat.ne_of_lt (Heap.lt_size e)) (Heap.get?_push_of_some _ e)
  have I : L2.Inv (NdefX.ncx CX P w K mg base N ⟨x, qual, defArgs st, defBody st, defScope st, [("__class__", cc)], cda⟩ f A outer s H E) [] (NdefX.startF N [.ref a, y] [none]) H { s with heap := h₁, toks := s.toks + ((["self", v] : List Str).zip [Value.ref a, u1]).length } :=
    NdefX.inv_startN (us := [Value.ref a, u1]) S hr.hd e0 rfl (.cons (show L2.RelV (.ref a) (.ref a) from rfl) (.cons r1 .nil)) hC0 hns kp
  rw [hst]
  obtain ⟨nm, q, N', bs, bm, sn, sub, ab, col, dd, k0, k1, k2, k3, k5, hC, hbm⟩ := T.own.cls
  have hcl : PySem.W.clsIn K C = some { name := nm, bases := bs, mro := .ref C :: bm, ns := N', qualname := q, hasDict := true, slotNames := sn, subclasses := sub, abstract := ab, collection := col, hasDel := false } := by unfold PySem.W.clsIn; rw [hC] <;> rfl
  have hKs : ∀ z, s.heap.get? C = some z → h₁.get? C = some z := fun z => kp _ _
  obtain ⟨t1, hx⟩ := exo_at I.hok ha
  have hself : ((["self", v] : List Str).zip [Value.ref a, u1]).reverse.lookup ("self" : Str) = some (.ref a) := by
    have nd : (["self", v] : List Str).Nodup := by
      have := S.nd.sublist (List.take_sublist (2 + 1) N)
      rw [show N.take (2 + 1) = (["self", v] : List Str) ++ (["__class__"] : List Str) from S.pre] at this
      exact (List.nodup_append.mp this).1
    exact NdefX.zip_look (i := 0) nd rfl rfl
  refine ks_wpAt_execs_cons (ks_wpAt_Expr_any (ks_wpAt_MethodCall (pl := pl _) ?_ (hcall _)) (hint _ rfl) (hsw _))
  refine ks_wpAt_super_base hk1 hk2 (by decide) rfl (kp _ _ (KX _ _ lk)) rfl hp rfl (kp _ _ (KX _ _ lcd)) rfl hvs hfile htop ?_
  refine PySem.W.ks_loadName_global S.kind hk1 ?_
  obtain ⟨mb, b1, b2⟩ := e0.mod.blt
  refine Calls.loadGlobal_builtin (e0.mod.glob.keeps I.bk) hm (b1.keeps I.bk) ((b2 _ (by decide)).trans PyProof.Rows.Boot.«super») ⟨rfl, ?_⟩
  refine wpAny_loadName_free S.kind hk2 rfl ⟨_, kp _ _ (KX _ _ lcc), rfl⟩ ?_
  rw [har]
  refine wpAny_loadName_local S.kind (S.par _ (by simp)) hns hself ?_
  refine ks_wpAny_isType_cls (kp _ _ (KX _ _ hC)) rfl ⟨rfl, ?_⟩
  refine ks_wpAny_call_super (kp _ _ (KX _ _ hC)) rfl hx rfl (fun c z => nomatch z) (PySem.W.looks_mroIn I.kIn T.sub) fun h2 e2 k2 => ?_
  have I2 := I.kept (t' := s.toks + ((["self", v] : List Str).zip [Value.ref a, u1]).length) k2
  have IA : PySem.W.InstAt h2 a _ C none := ⟨k2 _ _ hx, rfl, rfl, trivial⟩
  refine PySem.W.kxs_getMethod PySem.W.kxs_ValueError e2 (PySem.W.looks_opaque I2.kIn T.sta) ((PySem.W.looks_clsIn I2.kIn hcl).andThen .now) rfl I2.kIn ?hf (IA.type.andThen (PySem.W.looks_subIn I2.kIn T.val)) (PySem.W.ks_ne I2.kIn IA hcl) (by decide) ?_
  case hf =>
    have q := T.sup
    unfold PySem.W.ks_superIn at q
    rw [hcl] at q
    exact q
  have k3 : ∀ b o, h2.get? b = some o → (h2.push (PySem.W.kxs_mw "ValueError.__init__" a)).get? b = some o := fun b o e => Heap.get?_push_of_some _ e
  have I3 := I2.kept (t' := s.toks + ((["self", v] : List Str).zip [Value.ref a, u1]).length + 1) k3
  have hu : (h2.push (PySem.W.kxs_mw "ValueError.__init__" a)).get? h2.objs.size = some (PySem.W.kxs_mw "ValueError.__init__" a) := Heap.get?_push_size _ rfl
  have I4 := I3.pins_of (pins' := [(h2.objs.size, PySem.W.kxs_mw "ValueError.__init__" a)]) fun p hp => by
    obtain rfl := List.mem_singleton.mp hp
    exact ⟨hu, I2.hok.fresh (Nat.le_refl _), Nat.ne_of_gt I2.lt, I2.nofs (Nat.le_refl _), fun v z => nomatch z⟩
  rw [hs]
  refine PySem.W.kxs_callWith (i := "ValueError.__init__") (x := a) rfl (PySem.Calls.evalArgs_plain ?_)
  have pa := pa_cons (he A outer s H E cc cda (hr.deeper _)) pa_nil (hs _)
  have go := pa.run pos _ _ _ _ _ I4 hq
  rw [hs] at go
  refine thn go fun us s5 ⟨vs, H5, I5, r5, hl5, eH, hend⟩ => ?_
  rw [eH] at I5
  have hu5 := (I5.pin (h2.objs.size, PySem.W.kxs_mw "ValueError.__init__" a) (by simp)).1
  refine ⟨hu5, mw_call T I5 ha hu5 (by show us.length ≤ sizeLine; rw [← r5.length]; exact Nat.le_trans hl5 (by decide)) fun s6 I6 => ?_⟩
  refine wpAt_of_wpAny ?_
  have ps : PSs (NdefX.ncx CX P w K mg base N ⟨x, qual, defArgs st, defBody st, defScope st, [("__class__", cc)], cda⟩ f A outer s H E) [.Assign [.Attribute (.Name "self" p3) fld p4] (.Name v p5) pos6] _ :=
    pss_one (ps_ost (pe_var (i := 0) hN0 (.inl (S.par _ (by simp))) (by decide) (by decide)) (pe_var (i := 1) hN1 (.inl (S.par _ (by simp))) hv1 hv2))
  refine wpAny_mono (ps.run _ _ _ _ { nx := fun _ H' => Q .non H', rt := Q } I6 ?ost) (fun fl s' hs => ?_) fun e s' hs => hs
  case ost => exact ⟨y, rfl, .ref a, rfl, a, C, rfl, T.own, hno, .inl ⟨ha, fun dx n ne => hend dx n ne⟩⟩
  have fin : ∀ {σ' : L2.St} {H' : Hp} {v' : V} {u : Value} {pn : List (Addr × Obj)}, L2.Inv (NdefX.ncx CX P w K mg base N ⟨x, qual, defArgs st, defBody st, defScope st, [("__class__", cc)], cda⟩ f A outer s H E) pn σ' H' s' → L2.RelV v' u → Q v' H' → CE outer P w H s Q u s' :=
    fun {σ' H' v' u pn} J rv q => ⟨v', H', J.os, J.bare, J.base, J.hok, rv, q⟩
  cases fl with
  | ret u =>
    obtain ⟨v', σ', H', J, rv, q⟩ := hs
    exact fin J rv q
  | next =>
    obtain ⟨σ', H', J, q⟩ := hs
    exact fin (v' := V.non) (u := Value.none) J rfl q
  | brk =>
    obtain ⟨_, _, _, q⟩ := hs
    exact False.elim q
  | cont =>
    obtain ⟨_, _, _, q⟩ := hs
    exact False.elim q
end Nn

namespace Nn
open PySem PySem.Spec PyProof.Rows L2
/-! ### defs, classes and methods of the text that may raise -/
structure ClX (P : Program) (w : World) (K : PySem.W.Frag) (mg : Str → Option Value) (base : Heap) (k : Nat) (x : Str) (sp : Sp) : Prop where
  ex : ∃ (f : Addr) (fd : FuncData) (ps : List Str), FnOk P w K mg base (L2.CX P w) k f fd ps sp ∧ mg x = some (.ref f) ∧ PySem.W.keepIn K (.ref f) = true ∧ Binds K fd ps []
structure MrX (P : Program) (w : World) (K : PySem.W.Frag) (mg : Str → Option Value) (base : Heap) (k : Nat) (x : Str) (C : Addr) (sp : Sp) : Prop where
  ex : ∃ (f : Addr) (fd : FuncData) (ps : List Str), Mk K C f ∧ FnOk P w K mg base (L2.CX P w) k f fd ps sp ∧ mg x = some (.ref C) ∧ Binds K fd ps []
structure MtX (P : Program) (w : World) (K : PySem.W.Frag) (mg : Str → Option Value) (base : Heap) (k : Nat) (C : Addr) (m : Str) (sp : Sp) : Prop where
  ex : ∃ (f : Addr) (fd : FuncData) (ps : List Str), Cls K C ∧ Meth K C m f ∧ FnOk P w K mg base (L2.CX P w) k f fd ps sp ∧ Binds K fd ps []
section
variable {P : Program} {w : World} {K : PySem.W.Frag} {mg : Str → Option Value} {base : Heap} {j k f C : Addr} {fd : FuncData} {ps : List Str} {sp : Sp} {x m : Str}
end
def tMakeS (C : Addr) (sp : Sp) (E : L2.St → XK) (t : TA) : TE := fun σ H Q => t σ H fun vs H1 => ∀ x dx, H1 x = none → H1 dx = none → dx ≠ x → sp (.ref x :: vs) (upd (upd H1 dx (.own x)) x (.ins C dx [])) (fun v H2 => v = .non ∧ Q (.ref x) H2) (E σ)
def tMethS (C : Addr) (m : Str) (sp : Sp) (E : L2.St → XK) (ta : TE) (t : TA) : TE := fun σ H Q => ta σ H fun x H1 => ∃ a dx fs, x = .ref a ∧ H1 a = some (.ins C dx fs) ∧ fs.lookup m = none ∧ t σ H1 fun vs H2 => sp (x :: vs) H2 Q (E σ)
section
variable {X : Cx} {W : WX} {j k : Nat} {C : Addr} {x m : Str} {sp : Sp} {p pos apos : Pos} {e o : Expr} {es : List Expr} {ta : TE} {t : TA}
theorem pe_clX (tk : Takes X W) (c : ClX X.prog X.w X.K X.mg X.base k x sp) (hr : Room j X.A) (hk : k ≤ j) (hg : Gl X x) (ha : PA X (e :: es) t)
    (hdb : (x == ("__debug__" : Str)) = false := by decide) (he : starEach (e :: es) X.env = (false, eval e X.env) :: starEach es X.env := by rfl) (hpl : (backTo pos (starEach es X.env)).any (·.1) = false := by rfl) :
    PE X (.Call (.Name x p) (e :: es) [] pos) (tCallS sp (WE W) t) := by
  obtain ⟨f, fd, ps, F, hm, kp, b⟩ := c.ex
  exact pe_callS F (hr.mono hk) hg hm kp b (passAt tk) ha hdb he hpl
/-- a class called whose __init__ may raise -/
theorem makeS_run {pins : List (Addr × Obj)} {σ : L2.St} {H : Hp} {s : Shared} {Q : VK} {us : List Value} {vs : List V} (c : MrX X.prog X.w X.K X.mg X.base k x C sp) (hr : Room j X.A) (hk : k + 1 ≤ j) {E : XK} (hx : PassesAt (L2.CX X.prog X.w) X σ E)
    (I : Inv X pins σ H s) (r : Vals vs us) (h : ∀ x dx, H x = none → H dx = none → dx ≠ x → sp (.ref x :: vs) (upd (upd H dx (.own x)) x (.ins C dx [])) (fun v H2 => v = .non ∧ Q (.ref x) H2) E) :
    wpAny (model X.prog X.w) X.A (call (.ref C) us) (EP X pins σ Q) X.xe s := by
  obtain ⟨f, fd, ps, M, F, hm, b⟩ := c.ex
  have n : s.heap.objs.size ≠ s.heap.objs.size + 1 := Nat.ne_of_lt (Nat.lt_succ_self _)
  have go := h (s.heap.objs.size + 1) s.heap.objs.size (I.hok.fresh (Nat.le_succ _)) (I.hok.fresh (Nat.le_refl _)) n
  have J : Inv X pins σ _ _ := Inv.made (C := C) I
  have rr : Vals (V.ref (s.heap.objs.size + 1) :: vs) (Value.ref (s.heap.objs.size + 1) :: us) := .cons (show L2.RelV (.ref _) (.ref _) from rfl) r
  have hlen : (Value.ref (s.heap.objs.size + 1) :: us).length = ps.length := rr.length.symm.trans (F.len _ _ _ _ go)
  have bd := b _ (Value.ref (s.heap.objs.size + 1) :: us) J.kIn (by rw [List.append_nil]; exact hlen)
  rw [List.append_nil] at bd
  refine wpAny_call (make_map (f := f) I.kIn M.makes M.init (beq_iff_eq.mp M.fn) (codeAny_mono (F.run _ X.stack _ _ ⟨Value.ref (s.heap.objs.size + 1) :: us, []⟩ _ _ _ E ((hr.mono hk).make C us []) (J.env0.make C us []) bd rr go) fun fl s' q => ?_))
  match fl, q with
  | .error er, q => exact hx pins _ _ er s' J q
  | .ok (.ret u), q =>
    obtain ⟨v, H', J', rv, ev, q3⟩ := J.after q
    subst ev
    exact ⟨rv, V.ref (s.heap.objs.size + 1), H', J', rfl, q3⟩
  | .ok .next, q => exact False.elim q
  | .ok .brk, q => exact False.elim q
  | .ok .cont, q => exact False.elim q
theorem pe_mrX (tk : Takes X W) (c : MrX X.prog X.w X.K X.mg X.base k x C sp) (hr : Room j X.A) (hk : k + 1 ≤ j) (hg : Gl X x) (ha : PA X (e :: es) t)
    (hdb : (x == ("__debug__" : Str)) = false := by decide) (he : starEach (e :: es) X.env = (false, eval e X.env) :: starEach es X.env := by rfl) (hpl : (backTo pos (starEach es X.env)).any (·.1) = false := by rfl) :
    PE X (.Call (.Name x p) (e :: es) [] pos) (tMakeS C sp (WE W) t) := by
  obtain ⟨f, fd, ps, M, F, hm, b⟩ := c.ex
  exact ⟨fun pins s σ H Q I h => wpAny_Call_Name_kw (ld_glob I hg hm (PySem.W.callWith_K (h₀ := X.base) I.ok.mod.kin M.kp (thn (ha.run pos pins s σ H _ I h) fun us s1 ⟨vs, H1, I1, r, q⟩ =>
    ⟨I1.kIn, makeS_run c hr hk (passAt tk σ) I1 r q⟩) he hpl) hdb)⟩
theorem pe_meX {pl : Sem Bool} (tk : Takes X W) (c : MtX X.prog X.w X.K X.mg X.base k C m sp) (hr : Room j X.A) (hk : k ≤ j) (he : PE X o ta) (ha : PA X (e :: es) t)
    (hst : starEach (e :: es) X.env = (false, eval e X.env) :: starEach es X.env := by rfl) (hpl : (backTo pos (starEach es X.env)).any (·.1) = false := by rfl)
    (ht : eval (.Call (.Attribute o m apos) (e :: es) [] pos) X.env = (do
      let ov ← eval o X.env
      standAt apos.atName
      let (f, first) ← holding [ov] (getMethod ov m pl)
      callWith pos f first (backTo pos (starEach (e :: es) X.env)) (backToKw pos (keywordEach [] X.env))) := by rfl) :
    PE X (.Call (.Attribute o m apos) (e :: es) [] pos) (tMethS C m sp (WE W) ta t) := by
  obtain ⟨f, fd, ps, hc, hm, F, b⟩ := c.ex
  refine ⟨fun pins s σ H Q I h => PySem.W.methodCall_KW (pl := pl) (thn (he.run pins s σ H _ I h) fun u s1 ⟨v, H1, I1, rv, a, dx, fs, ev, ea, l, q⟩ => ?_) ht⟩
  subst ev
  obtain rfl : u = Value.ref a := rv
  exact getmeth_ok I1 ea hc hm l (PySem.W.callWith_K (first := [.ref a]) (h₀ := X.base) I.ok.mod.kin hm.kp (thn (ha.run pos pins s1 σ H1 _ I1 q) fun us s2 ⟨vs, H2, I2, r, q2⟩ =>
    ⟨I2.kIn, run_fnS (E := WE W) (us := .ref a :: us) (vs := .ref a :: vs) F (hr.mono hk) b (passAt tk σ) I2 (.cons (show L2.RelV (.ref a) (.ref a) from rfl) r) q2⟩) hst hpl)
theorem pe_me0X {pl : Sem Bool} (tk : Takes X W) (c : MtX X.prog X.w X.K X.mg X.base k C m sp) (hr : Room j X.A) (hk : k ≤ j) (he : PE X o ta)
    (ht : eval (.Call (.Attribute o m apos) [] [] pos) X.env = (do
      let ov ← eval o X.env
      standAt apos.atName
      let (f, first) ← holding [ov] (getMethod ov m pl)
      callWith pos f first (backTo pos (starEach [] X.env)) (backToKw pos (keywordEach [] X.env))) := by rfl) :
    PE X (.Call (.Attribute o m apos) [] [] pos) (tMethS C m sp (WE W) ta tNil) := by
  obtain ⟨f, fd, ps, hc, hm, F, b⟩ := c.ex
  refine ⟨fun pins s σ H Q I h => PySem.W.methodCall_KW (pl := pl) (thn (he.run pins s σ H _ I h) fun u s1 ⟨v, H1, I1, rv, a, dx, fs, ev, ea, l, q⟩ => ?_) ht⟩
  subst ev
  obtain rfl : u = Value.ref a := rv
  exact getmeth_ok I1 ea hc hm l (PySem.W.callWith_K0 (first := [.ref a]) I1.kIn hm.kp (run_fnS (E := WE W) (us := [.ref a]) (vs := [.ref a]) F (hr.mono hk) b (passAt tk σ) I1 (.cons (show L2.RelV (.ref a) (.ref a) from rfl) .nil) q))
end
section
variable {σ : L2.St} {H : Hp} {Q : VK} {ta te : TE} {t : TA} {C : Addr} {sp : Sp} {E : L2.St → XK} {m : Str} {K : PySem.W.Frag} {f : Str}
theorem rd_callS (k : t σ H fun vs H1 => sp vs H1 Q (E σ)) : tCallS sp E t σ H Q := k
theorem rd_makeS (k : t σ H fun vs H1 => ∀ x dx, H1 x = none → H1 dx = none → dx ≠ x → sp (.ref x :: vs) (upd (upd H1 dx (.own x)) x (.ins C dx [])) (fun v H2 => v = .non ∧ Q (.ref x) H2) (E σ)) : tMakeS C sp E t σ H Q := k
theorem rd_methS (k : ta σ H fun x H1 => ∃ a dx fs, x = .ref a ∧ H1 a = some (.ins C dx fs) ∧ fs.lookup m = none ∧ t σ H1 fun vs H2 => sp (x :: vs) H2 Q (E σ)) : tMethS C m sp E ta t σ H Q := k
theorem rd_fldH (k : te σ H fun x H1 => ∃ (a C d : Addr) (fs : List (Str × V)) (v : V), x = .ref a ∧ ErrAt H1 a C (some d) fs ∧ ExcC K C ∧ PySem.W.findIn K (.ref C) f = some none ∧ fs.lookup f = some v ∧ Q v H1) : tFldH K te f σ H Q := k
end
/-! ### the seven refusals -/
inductive Flt where
  | name | twice (z : Str) | missing (z : Str) | held (z : Str) | letgo (z : Str) | spare (zs : List Str) | row (n : Int)
/-- the classes -/
structure ErrCs where
  name : Addr
  twice : Addr
  missing : Addr
  held : Addr
  letgo : Addr
  spare : Addr
  row : Addr
def Flt.cls (Cs : ErrCs) : Flt → Addr
  | .name => Cs.name
  | .twice _ => Cs.twice
  | .missing _ => Cs.missing
  | .held _ => Cs.held
  | .letgo _ => Cs.letgo
  | .spare _ => Cs.spare
  | .row _ => Cs.row
/-- the field that an error has -/
def fN (x : Str) (v : V) : List (Str × V) := [(x, v)]
def fldIs (H : Hp) : Flt → List (Str × V) → Prop
  | .name, fs => fs = []
  | .twice z, fs => fs = fN "name" (V.str z)
  | .missing z, fs => fs = fN "name" (V.str z)
  | .held z, fs => fs = fN "name" (V.str z)
  | .letgo z, fs => fs = fN "name" (V.str z)
  | .spare zs, fs => ∃ t, fs = fN "ring" (V.ref t) ∧ H t = some (.tup (zs.map V.str))
  | .row n, fs => fs = fN "row" (V.int n)
/-- the error is out: what stood stands, its dict is new -/
def Thrown (Cs : ErrCs) (N : List Addr) (H : Hp) (E : XK) (x : Flt) : Prop :=
  match x with
  | .name => ∀ H', Kp N H H' → E (.ref Cs.name) none H'
  | x => ∀ d fs H', H d = none → Kp N H H' → H' d = some (.xd fs) → fldIs H' x fs → E (.ref (x.cls Cs)) (some d) H'
/-- an error that is kept at a -/
def ErrIs (Cs : ErrCs) (H : Hp) (a : Addr) (x : Flt) : Prop := ∃ d fs, ErrAt H a (x.cls Cs) d fs ∧ fldIs H x fs ∧ (x ≠ .name → d ≠ none)
end Nn
namespace Nn
open PySem PySem.Spec PyProof.Rows L2
/-! ### the errors made -/
/-- what an error's field takes: a short text; a tuple of short texts; a number that is not vast -/
def okT : V → Hp → Prop := fun y _ => ∃ z : Str, y = .str z ∧ z.length ≤ 100000
def okI : V → Hp → Prop := fun y _ => ∃ i : Int, y = .int i ∧ i.natAbs.log2 < 1920
def okR (K : PySem.W.Frag) : V → Hp → Prop := fun y H => ∃ (t : Addr) (l : List Str), y = .ref t ∧ SqT K H t (l.map V.str) ∧ (∀ z ∈ l, ∀ c ∈ z.cps.toList, c < 16 ^ 8) ∧ fmtCost l ≤ 100000
def spErr (C : Addr) (fld : Str) (ok : V → Hp → Prop) : Sp := fun vs H Q _ => ∃ (a : Addr) (y : V), vs = [.ref a, y] ∧ ok y H ∧ H a = some (exo a C none) ∧ ∀ dx, H dx = none → dx ≠ a → Q .non (upd (upd H dx (exd dx [(fld, y)])) a (exo a C (some dx)))
/-- X(e), as the text's class with its own __init__ makes it -/
structure ErrMk (P : Program) (w : World) (K : PySem.W.Frag) (mg : Str → Option Value) (base : Heap) (k : Nat) (x : Str) (C : Addr) (fld : Str) (ok : V → Hp → Prop) : Prop where
  ex : ∃ (f : Addr) (fd : FuncData) (ps : List Str), OexC K C ∧ PySem.W.findIn K (.ref C) "__init__" = some (some (.ref f)) ∧ PySem.W.typeIn K (.ref f) = some (.type "function") ∧ FnOk P w K mg base CX0 k f fd ps (spErr C fld ok) ∧ Binds K fd ps [] ∧ mg x = some (.ref C)
section
variable {X : Cx} {j k : Nat} {C : Addr} {x fld : Str} {ok : V → Hp → Prop} {p pos : Pos} {e : Expr} {te : TE}
theorem pmk_err (c : ErrMk X.prog X.w X.K X.mg X.base k x C fld ok) (hr : Room j X.A) (hk : k + 1 ≤ j) (hg : Gl X x) (he : PE X e te) (hdb : (x == ("__debug__" : Str)) = false := by decide)
    (hs : starEach [e] X.env = (false, eval e X.env) :: starEach [] X.env := by rfl) (hpl : (backTo pos (starEach [] X.env)).any (·.1) = false := by rfl) :
    PMk X (.Call (.Name x p) [e] [] pos) (tMkO C (spErr C fld ok) [] (tCons te tNil)) := by
  obtain ⟨f, fd, ps, T, iC, tI, F, b, hm⟩ := c.ex
  exact pmk_oex T iC tI F (hr.mono hk) b .nil pass0 hg hm (pa_cons he pa_nil hs) hdb hs hpl
end
section
variable {σ : L2.St} {H H0 : Hp} {C : Addr} {fld : Str} {ok : V → Hp → Prop} {te : TE} {Q : XK} {y : V} {M : List Addr} {L T : List (Addr × HO)}
theorem rd_mkO {sp : Sp} (k : te σ H fun y H1 => [y].length ≤ 1000 ∧ ∀ a, H1 a = none → sp (.ref a :: ([y] ++ [])) (upd H1 a (exo a C none)) (fun v H2 => v = .non ∧ ∃ (d : Addr) (fs : List (Str × V)), H2 a = some (exo a C (some d)) ∧ H2 d = some (exd d fs) ∧ H1 d = none ∧ Q (.ref C) (some d) (upd (del H2 a) d (.xd fs))) (fun _ _ _ => False)) :
    tMkO C sp [] (tCons te tNil) σ H Q := k
/-- the end of X(y) -/
theorem rd_err (ho : ∀ a, H a = none → ok y (upd H a (exo a C none))) (k : ∀ d, H d = none → Q (.ref C) (some d) (upd H d (.xd [(fld, y)]))) :
    [y].length ≤ 1000 ∧ ∀ a, H a = none → spErr C fld ok (.ref a :: ([y] ++ [])) (upd H a (exo a C none)) (fun v H2 => v = .non ∧ ∃ (d : Addr) (fs : List (Str × V)), H2 a = some (exo a C (some d)) ∧ H2 d = some (exd d fs) ∧ H d = none ∧ Q (.ref C) (some d) (upd (del H2 a) d (.xd fs))) (fun _ _ _ => False) := by
  refine ⟨(show 1 ≤ 1000 by decide), fun a ha => ⟨a, y, rfl, ho a ha, upd_same, fun dx hdx hne => ⟨rfl, dx, [(fld, y)], upd_same, ?_, ?_, ?_⟩⟩⟩
  · rw [upd_ne hne, upd_same]
  · rw [upd_ne hne] at hdx; exact hdx
  · have hd : H dx = none := by rw [upd_ne hne] at hdx; exact hdx
    have e : upd (del (upd (upd (upd H a (exo a C none)) dx (exd dx [(fld, y)])) a (exo a C (some dx))) a) dx (.xd [(fld, y)]) = upd H dx (.xd [(fld, y)]) := by
      funext b
      by_cases h1 : b = dx
      · rw [h1, upd_same, upd_same]
      · rw [upd_ne h1, upd_ne h1]
        by_cases h2 : b = a
        · rw [h2, del_same, ha]
        · rw [del_ne h2, upd_ne h2, upd_ne h1, upd_ne h2]
    rw [e]
    exact k dx hd
/-- a refusal with a text is out -/
theorem thrown_out {Cs : ErrCs} {E : XK} {x : Flt} {fs : List (Str × V)} (A : At M H0 H L T) (th : Thrown Cs M H0 E x) (hx : x ≠ .name) (hf : ∀ H', fldIs H' x fs) {d : Addr} (hd : H d = none) : E (.ref (x.cls Cs)) (some d) (upd H d (.xd fs)) := by
  have B := A.snoc hd (.xd fs)
  cases x with
  | name => exact absurd rfl hx
  | twice z => exact th d fs _ (A.fresh0 hd) B.keep upd_same (hf _)
  | missing z => exact th d fs _ (A.fresh0 hd) B.keep upd_same (hf _)
  | held z => exact th d fs _ (A.fresh0 hd) B.keep upd_same (hf _)
  | letgo z => exact th d fs _ (A.fresh0 hd) B.keep upd_same (hf _)
  | spare z => exact th d fs _ (A.fresh0 hd) B.keep upd_same (hf _)
  | row z => exact th d fs _ (A.fresh0 hd) B.keep upd_same (hf _)
end
/-! ### NoName -/
structure NoNameC (K : PySem.W.Frag) (mg : Str → Option Value) (x : Str) (C : Addr) : Prop where
  ex : PySem.W.excIn K C [.type "ValueError", .type "Exception", .type "BaseException", .type "object"] "ValueError.__new__" = true
  g : mg x = some (.ref C)
  k : PySem.W.keepIn K (.ref C) = true
  b : PySem.W.subIn K (.ref C) (.type "BaseException") = some true
  t : PySem.W.typeIn K (.ref C) = some (.type "type")
theorem pmk_noname {X : Cx} {x : Str} {C : Addr} {p pos : Pos} {e : Expr} {te : TE} (c : NoNameC X.K X.mg x C) (hx : X.ex = []) (hg : Gl X x) (he : PE X e te) (hs : starEach [e] X.env = (false, eval e X.env) :: starEach [] X.env := by rfl) (hdb : (x == ("__debug__" : Str)) = false := by decide) :
    PMk X (.Call (.Name x p) [e] [] pos) (fun σ H Q => te σ H fun _ H1 => ∀ a, H1 a = none → ∃ b cls, V.ref a = .ref b ∧ (upd H1 a (ExO (.ref C) a)) b = some (ExO cls b) ∧ Fr0 X.H_0 b ∧ Raises X cls ∧ Q cls none (delH (upd H1 a (ExO (.ref C) a)) b)) :=
  pmk_ret hx (pe_exc1 F.excBase_ValueError c.ex c.g c.k hg he hs hdb)
/-- the end of NoName(..) -/
theorem rd_noName {X : Cx} {x : Str} {C : Addr} {H : Hp} {Q : XK} (c : NoNameC X.K X.mg x C) (h0 : ∀ a, H a = none → X.H_0 a = none) (k : Q (.ref C) none H) :
    ∀ a, H a = none → ∃ b cls, V.ref a = .ref b ∧ (upd H a (ExO (.ref C) a)) b = some (ExO cls b) ∧ Fr0 X.H_0 b ∧ Raises X cls ∧ Q cls none (delH (upd H a (ExO (.ref C) a)) b) :=
  fun a ha => ⟨a, .ref C, rfl, upd_same, fr0_none (h0 a ha), raises_own c.b c.t, by rw [delH_new ha]; exact k⟩
end Nn
namespace Nn
open PySem PySem.Spec PyProof.Rows L2
/-! ### what the text of such an __init__ comes to -/
section
variable {C : Addr} {N : List Str} {c c2 : Str} {vs : List V} {H : Hp} {Q : VK} {E : XK}
abbrev tTexts (ts : List TE) : TE := fun σ H Q => tJs ts Str.empty σ H fun out H1 => Q (.str out) H1
theorem sup_nc (hc : c.length ≤ 1000) (fld : Str) (h : spErr C fld okT vs H Q E) : spSup C N fld (tTexts [tFmt (tVar 1), tC (.str c)]) vs H Q E := by
  obtain ⟨a, y, rfl, ⟨z, rfl, hz⟩, ha, k⟩ := h
  have s1 : (100000 : Nat) + 1000 ≤ sizeLine := by decide
  have l1 : (Str.empty ++ z).length ≤ sizeLine := by rw [Str.length_append]; show 0 + _ ≤ _; omega
  have l2 : (Str.empty ++ z ++ c).length ≤ sizeLine := by rw [Str.length_append, Str.length_append]; show 0 + _ + _ ≤ _; omega
  exact ⟨a, .str z, rfl, ha, .str z, rfl, .inl ⟨z, rfl, by omega, z, rfl, l1, c, rfl, l2, (show 1 ≤ 1000 by decide), rfl, k⟩⟩
theorem sup_cn (hc : c.length ≤ 1000) (fld : Str) (h : spErr C fld okT vs H Q E) : spSup C N fld (tTexts [tC (.str c), tFmt (tVar 1)]) vs H Q E := by
  obtain ⟨a, y, rfl, ⟨z, rfl, hz⟩, ha, k⟩ := h
  have s1 : (100000 : Nat) + 1000 ≤ sizeLine := by decide
  have l1 : (Str.empty ++ c).length ≤ sizeLine := by rw [Str.length_append]; show 0 + _ ≤ _; omega
  have l2 : (Str.empty ++ c ++ z).length ≤ sizeLine := by rw [Str.length_append, Str.length_append]; show 0 + _ + _ ≤ _; omega
  exact ⟨a, .str z, rfl, ha, c, rfl, l1, .str z, rfl, .inl ⟨z, rfl, by omega, z, rfl, l2, (show 1 ≤ 1000 by decide), rfl, k⟩⟩
theorem sup_cR {K : PySem.W.Frag} (hc : c.length ≤ 1000) (fld : Str) (h : spErr C fld (okR K) vs H Q E) : spSup C N fld (tTexts [tC (.str c), tFmtT K (tVar 1)]) vs H Q E := by
  obtain ⟨a, y, rfl, ⟨t, l, rfl, ht, hl, hz⟩, ha, k⟩ := h
  have s1 : (100000 : Nat) + 2000 ≤ sizeLine := by decide
  have l1 : (Str.empty ++ c).length ≤ sizeLine := by rw [Str.length_append]; show 0 + _ ≤ _; omega
  exact ⟨a, .ref t, rfl, ha, c, rfl, l1, .ref t, rfl, t, l, rfl, ht, hl, by omega, fun m hm => ⟨m, rfl, by rw [Str.length_append, Str.length_append]; show 0 + _ + _ ≤ _; omega, (show 1 ≤ 1000 by decide), rfl, k⟩⟩
end
end Nn
namespace Nn
open PySem PySem.Spec PyProof.Rows L2
theorem int_of {env : Env} {sc : Scope} (h : env.scope = sc) (k : (sc.kind == .module) = false) : interactive env = false := by
  unfold interactive
  rw [h, k, Bool.false_and]
/-- what «except N» catches: an error of a class below N -/
theorem exm_of {K : PySem.W.Frag} {S N : Addr} (h1 : PySem.W.subIn K (.ref N) (.type "BaseException") = some true) (h2 : PySem.W.isClsIn K N = true) (h3 : PySem.W.typeIn K (.ref N) = some (.type "type")) (h4 : PySem.W.subIn K (.ref S) (.ref N) = some true) :
    PySem.W.exmOne K (.ref S) (.ref N) = some true := by
  have h2' : (PySem.W.clsIn K N).isSome = true := h2
  unfold PySem.W.exmOne
  rw [h1, if_pos (by rfl)]
  show (if ((PySem.W.clsIn K N).isSome && PySem.W.typeIn K (.ref N) == some (.type "type")) = true then PySem.W.subIn K (.ref S) (.ref N) else none) = some true
  rw [h2', h3, if_pos (by rfl)]
  exact h4
end Nn

namespace Nn
open PySem PySem.Spec PyProof.Rows L2
/-! ### l.count(b), bools -/
def rCntB (K : PySem.W.Frag) : V → List V → Hp → VK → Prop := fun x xs H Q => ∃ (p : Addr) (bs : List Bool) (k : Bool), x = .ref p ∧ xs = [.bl k] ∧ SqL K H p (bs.map V.bl) ∧ Q (.int (bs.count k : Nat)) H
theorem bools_of : ∀ {bs : List Bool} {its : List Value}, Vals (bs.map V.bl) its → its = bs.map Value.bool
  | [], _, h => by cases h; rfl
  | b :: bs, _, h => by
    cases h with
    | cons r t =>
      rw [bools_of t, List.map_cons, show _ = Value.bool b from r]
def isB (k : Bool) (v : Value) : Bool := match v with
  | .bool b => b == k
  | _ => false
theorem count_isB (k : Bool) : ∀ bs : List Bool, (bs.map Value.bool).countP (isB k) = bs.count k
  | [] => rfl
  | b :: bs => by
    rw [List.map_cons, List.countP_cons, List.count_cons, count_isB k bs]
    rfl
theorem mt_cntB {X : Cx} : MtR X "list.count" (rCntB X.K) := by
  intro pins s σ H x xs v us Q I rx rxs h
  obtain ⟨p, bs, k, rfl, rfl, hs, q⟩ := h
  cases rx
  obtain ⟨u, rfl, ru⟩ := rxs.one
  obtain rfl : u = Value.bool k := ru
  obtain ⟨its, rv, ⟨⟨cls, dd, data, sl⟩, n, ho, hc, hdn, hd⟩, hlen⟩ := I.list hs
  simp only at hc hd
  subst hc hd
  have e := bools_of rv
  subst e
  refine call_meets PySem.F.slot_list_count ⟨_, ho, rfl⟩ PySem.F.entry_list_count (PySem.F.args_list_count_2 _ _) (SeqAt.list_countAt p (bs.map Value.bool).toArray n dd sl (.bool k) (isB k)) ⟨ho, fun y hy => ?_, ?_⟩
  · have hy : y ∈ bs.map Value.bool := by simpa using hy
    obtain ⟨b, _, rfl⟩ := List.mem_map.mp hy
    exact eqAt_V (y := .bl b) (x := .bl k) rfl rfl rfl rfl
  refine ⟨.int (bs.count k : Nat), H, I.tok _, ⟨s.toks, ?_⟩, q⟩
  rw [← count_isB k bs]
end Nn

namespace Nn
open PySem PySem.Spec PyProof.Rows L2
/-! ### set(l), l a list of texts -/
def inL (l : List Str) : Key → Bool
  | .inl _ => false
  | .inr z => decide (z ∈ l)
theorem inL_snoc (l : List Str) (x : Str) (k : Key) : (inL l k || decide (k = .inr x)) = inL (l ++ [x]) k := by
  cases k with
  | inl i =>
    show (false || decide ((Sum.inl i : Key) = .inr x)) = false
    rw [decide_eq_false (fun e => by cases e)]
    rfl
  | inr z =>
    show (decide (z ∈ l) || decide ((Sum.inr z : Key) = .inr x)) = decide (z ∈ l ++ [x])
    rw [← Bool.decide_or]
    exact decide_eq_decide.mpr (by rw [List.mem_append, List.mem_singleton]; exact ⟨fun h => h.imp_right Sum.inr.inj, fun h => h.imp_right (congrArg _)⟩)
section
variable {prog : Program} {w : World} {A : Around} {R : Result → Shared → Prop} {I : Addr} {fp wr : List Addr} {G : Array GenState → Array GenState → Prop} {n : Nat} {Pv : Nat → Value → Prop} {St : Nat → Shared → Prop}
theorem set_walk (W : WalksS prog w A.in1 I fp wr G n Pv St) (S : Addr) (off : S ∉ fp) (xs : List Str) (len : xs.length = n) (room : n + 1 < scanBound) (val : ∀ i v, Pv i v → ∃ x t, xs[i]? = some x ∧ v = .str x t) :
    ∀ (k i : Nat) (s : Shared), n - i = k → i ≤ n → St i s → (∃ c, c ≤ i ∧ s.heap.SetOf (mixKind prog w) S (inL (xs.take i)) c) →
      (∀ s' c, Moved (S :: wr) G s s' → c ≤ n → s'.heap.SetOf (mixKind prog w) S (inL xs) c → R (.ok (.ret .none)) s') → codeAny (model prog w) A (.builtin "set.update.loop" ⟨[.ref S, .ref I], []⟩) R s := by
  have more : ∀ b ∈ wr, b ∈ S :: wr := fun b => List.mem_cons_of_mem _
  have out : S ∉ wr := fun z => off (W.sub _ z)
  intro k
  induction k with
  | zero =>
    intro i s e0 le st ⟨c, hc, set⟩ fin
    obtain rfl : i = n := by omega
    refine codeAny_builtin PyProof.Rows.F.entry_set_update_loop ?_; rw [Around.under_plainId PyProof.Rows.F.plain_set_update_loop _]
    show wpAny _ A.in1 (pyNext (.ref I) >>= _) (fun _ _ => _) (fun _ _ => _) s
    refine wpAny_bind (W.done s _ _ st fun s1 mv => ?_)
    refine (show wpAny _ A.in1 (ret Value.none) _ _ s1 from wpAny_pure (fin s1 c (mv.mono more) hc ?_))
    rw [← len, List.take_length] at set
    exact setOf_at set fun o q => mv.heap S o out q
  | succ k ih =>
    intro i s e0 le st ⟨c, hc, set⟩ fin
    have lt : i < n := by omega
    refine codeAny_builtin PyProof.Rows.F.entry_set_update_loop ?_; rw [Around.under_plainId PyProof.Rows.F.plain_set_update_loop _]
    show wpAny _ A.in1 (pyNext (.ref I) >>= _) (fun _ _ => _) (fun _ _ => _) s
    refine wpAny_bind (W.item i s _ _ lt st fun v s1 pv st1 mv => ?_)
    obtain ⟨x, t, hx, rfl⟩ := val i v pv
    have set1 := setOf_at set fun o q => mv.heap S o out q
    show wpAny _ A.in1 (holding [Value.str x t] (setAdd S (.str x t)) >>= _) _ _ s1
    refine wpAny_bind (wpAny_holding ?_)
    unfold setAdd
    refine wpAny_holding (wpAny_bind ((mixKind prog w).pyHash (k := .inr x) (mixKind_str prog w x t) ?_))
    refine wpAny_setAddHashed_of (knd := mixKind prog w) (k := .inr x) (s := { s1 with toks := s1.toks + 1 }) (mixKind_str prog w x t) rfl set1 (by omega) fun h' sb set2 => ?_
    have set3 : ∃ c', c' ≤ i + 1 ∧ h'.SetOf (mixKind prog w) S (inL (xs.take (i + 1))) c' := by
      have e : (fun j => inL (xs.take i) j || decide (j = .inr x)) = inL (xs.take (i + 1)) := funext fun k' => by rw [List.take_add_one, hx]; exact inL_snoc _ _ _
      rw [← e]
      exact ⟨_, by split <;> omega, set2⟩
    have keep : ∀ b, b ≠ S → ∀ o, s1.heap.get? b = some o → h'.get? b = some o := fun b hb o q => (sb.2 b hb).trans q
    refine wpAny_pure ⟨plainId_quiet PyProof.Rows.F.plain_set_update_loop _, ih (i + 1) _ (by omega) lt (W.frame _ s1 _ _ st1 (Nat.le_succ _) fun b hb o q => keep b (fun z => off (z ▸ hb)) o q) set3 fun s2 c2 mv2 hc2 set4 => ?_⟩
    exact fin s2 c2 (Moved.trans W.gtrans ((mv.mono more).then_heap (Nat.le_succ _) fun b o hb q => keep b (fun z => hb (z ▸ List.mem_cons_self)) o q) mv2) hc2 set4
end
section
variable {prog : Program} {w : World} {A : Around} {E : Value → Shared → Prop} {s : Shared}
theorem set_list_call {l : Addr} {its : Array Value} {xs : List Str} {Q : Value → Shared → Prop} (hh : A.handled = none) (isl : s.heap.IsList l its) (vals : ∀ (i : Nat) (v : Value), its[i]? = some v → ∃ x t, xs[i]? = some x ∧ v = .str x t) (len : xs.length = its.size) (room : xs.length + 1 < scanBound)
    (fin : ∀ (h' : Heap) (tk c : Nat), c ≤ xs.length → h'.SetOf (mixKind prog w) s.heap.objs.size (inL xs) c → (∀ b o, s.heap.get? b = some o → h'.get? b = some o) → Q (.ref s.heap.objs.size) { s with heap := h', toks := tk }) :
    wpAny (model prog w) A (call (.type "set") [.ref l]) Q E s := by
  obtain ⟨c0, tl0, mro0⟩ := PySem.F.called_set.mro
  have made0 := PySem.F.called_set.made; have sub0 := PySem.F.called_set.sub; have nt0 := PySem.F.called_set.notType
  have cc0 := PySem.F.called_set.canCreate; have tc0 := PySem.F.typeCall_set_1 (.ref l)
  refine wpAny_call (codeAny_of_tree (show wpAny _ _ (callAny (.type "set") _) _ _ _ from wpAny_pure ⟨Code.quiet_builtin _ (by decide +kernel), codeAny_builtin PySem.F.entry_type_call ?_⟩))
  rw [Around.under_plain (weight_type_call_type "set" ([.ref l] : List Value) []) rfl]
  repeat any_goals (first | assumption | wp_step)
  have new0 : ∀ led : Bool, (s.heap.push { cls := .type "set", dict := none, data := .set #[] 0 (.fresh 0 0 led) }).get? s.heap.objs.size = some { cls := .type "set", dict := none, data := .set #[] 0 (.fresh 0 0 led) } := fun led => Heap.get?_push_size _ rfl
  refine codeAny_mono (code_set_new_1 (.ref l) (E := E) (Q₁ := fun ob s₁ => ∃ led : Bool, ob = .ref s.heap.objs.size ∧ s₁ = { s with heap := s.heap.push { cls := .type "set", dict := none, data := .set #[] 0 (.fresh 0 0 led) } }) fun led => ⟨led, rfl, rfl⟩) fun res s₁ hres => ?_
  match res, hres with
  | .error _, hres => exact hres
  | .ok .next, hres => exact hres.elim
  | .ok .brk, hres => exact hres.elim
  | .ok .cont, hres => exact hres.elim
  | .ok (.ret ob), hres =>
  obtain ⟨led, rfl, rfl⟩ := hres
  have ty0 : Shared.TypeIs { s with heap := s.heap.push { cls := .type "set", dict := none, data := .set #[] 0 (.fresh 0 0 led) } } (.ref s.heap.objs.size) "set" := ⟨_, new0 led, rfl⟩
  have il0 := PySem.F.called_set.init.lookup; have ib0 := PySem.F.called_set.init.bind (.ref s.heap.objs.size)
  repeat any_goals (first | assumption | wp_step)
  refine codeAny_mono (codeAny_call_builtin (R := wants (fun r s₂ => r = .none ∧ ∃ h' tk c, s₂ = { s with heap := h', toks := tk } ∧ c ≤ xs.length ∧ h'.SetOf (mixKind prog w) s.heap.objs.size (inL xs) c ∧ (∀ b o, s.heap.get? b = some o → h'.get? b = some o)) E) PySem.F.called_set.init.plain PySem.F.entry_set_init (check_set_init_1 ty0 ?_)) fun res2 s₂ hres2 => ?_
  · obtain ⟨⟨cl, di, da, sl⟩, ho, hc, nl, hd⟩ := isl
    simp only at hc hd
    subst hc
    subst hd
    have ho1 : (s.heap.push { cls := .type "set", dict := none, data := .set #[] 0 (.fresh 0 0 led) }).get? l = some { cls := .type "list", dict := di, data := .seq its nl, slots := sl } := Heap.get?_push_of_some _ ho
    have q1 := PySem.F.sub_list_set; have q2 := PySem.F.sub_list_frozenset; have q3 : (Value.type "list" == Value.type "dict") = false := by decide
    have isl1 : (s.heap.push { cls := .type "set", dict := none, data := .set #[] 0 (.fresh 0 0 led) }).IsList l its := ⟨_, ho1, rfl, nl, rfl⟩
    unfold Builtin.«set.__init__» noKeywords Builtin.Frozenset.updateFrom; generalize eI : pyIter = itr
    wp_walk
    subst eI
    refine wpAny_pyIter_list isl1 (wpAny_bind (wpAny_runValue ?_))
    have lt0 : l < s.heap.objs.size := Heap.lt_size ho
    have nI : l ≠ (s.heap.push { cls := .type "set", dict := none, data := .set #[] 0 (.fresh 0 0 led) }).objs.size := by rw [Heap.size_push]; exact Nat.ne_of_lt (Nat.lt_succ_of_lt lt0)
    have nS : s.heap.objs.size ∉ [(s.heap.push { cls := .type "set", dict := none, data := .set #[] 0 (.fresh 0 0 led) }).objs.size, l] := by
      rw [Heap.size_push, List.mem_cons, List.mem_singleton]; exact fun z => z.elim (fun z => Nat.ne_of_lt (Nat.lt_succ_self _) z) fun z => Nat.ne_of_gt lt0 z
    refine set_walk ((Walks.list (show A.in1.in1.in1.handled = none by simp [hh]) _ l nI its).toS) s.heap.objs.size nS xs len (by omega) vals (its.size - 0) 0 _ (by omega) (Nat.zero_le _) ⟨⟨_, Heap.get?_push_size _ rfl, rfl, rfl⟩, (isl1.push _)⟩ ⟨0, Nat.le_refl _, ?z0⟩ ?z1
    case z0 =>
      have e : (fun _ => false) = inL (xs.take 0) := funext fun k => by cases k <;> first | rfl | exact (decide_eq_false (by simp)).symm
      rw [← e]
      exact ⟨_, #[], 0, _, Heap.get?_push_of_some _ (new0 led), ⟨rfl, rfl, rfl⟩, rfl, fun x hx => (by simp at hx), fun x => (by simp), (by decide), by rfl, rfl⟩
    case z1 =>
      intro s3 c3 mv hc3 set3
      obtain ⟨h', g', d', tk', os'⟩ := s3
      obtain rfl : g' = s.gens := mv.gens
      obtain rfl : d' = s.drawn := mv.drawn
      obtain rfl : os' = s.os := mv.os
      refine (show wpAny _ _ _ _ _ _ from wpAny_pure (show wpAny _ _ (ret Value.none) _ _ _ from wpAny_pure ⟨rfl, h', tk', c3, rfl, by omega, set3, fun b o q => ?_⟩))
      have lt : b < s.heap.objs.size := Heap.lt_size q
      refine mv.heap b o ?_ (Heap.get?_push_of_some _ (Heap.get?_push_of_some _ q))
      rw [Heap.size_push, List.mem_cons, List.mem_singleton]; exact fun z => z.elim (fun z => Nat.ne_of_lt lt z) fun z => Nat.ne_of_lt (Nat.lt_succ_of_lt lt) z
  · match res2, hres2 with
    | .error _, hres2 => exact hres2
    | .ok .next, hres2 => exact hres2.elim
    | .ok .brk, hres2 => exact hres2.elim
    | .ok .cont, hres2 => exact hres2.elim
    | .ok (.ret r), hres2 =>
      obtain ⟨rfl, h', tk, c, rfl, hc, set3, keep⟩ := hres2
      repeat any_goals (first | assumption | wp_step)
      exact fin h' tk c hc set3 keep
end
/-- set(l) of a list of texts -/
def rSetS (K : PySem.W.Frag) (P : Program) (w : World) : List V → Hp → VK → Prop := fun vs H Q => ∃ (a : Addr) (xs : List Str), vs = [.ref a] ∧ SqL K H a (xs.map V.str) ∧ xs.length ≤ 1000 ∧ ∀ p c, H p = none → c ≤ xs.length → Q (.ref p) (upd H p (SetK P w p (inL xs) c))
theorem strs_vals : ∀ {xs : List Str} {us : List Value}, Vals (xs.map V.str) us → us.length = xs.length ∧ ∀ (i : Nat) (v : Value), us[i]? = some v → ∃ x t, xs[i]? = some x ∧ v = .str x t
  | [], _, h => by cases h; exact ⟨rfl, fun i v h => by simp at h⟩
  | x :: xs, _, h => by
    cases h with
    | cons r t =>
      obtain ⟨l, g⟩ := strs_vals t
      obtain ⟨tk, rfl⟩ := r
      refine ⟨by rw [List.length_cons, List.length_cons, l], fun i v hv => ?_⟩
      cases i with
      | zero => cases hv; exact ⟨x, tk, rfl, rfl⟩
      | succ i => exact g i v hv
theorem cr_setS {X : Cx} (hc : X.calm = true) : CallR X (.type "set") (rSetS X.K X.prog X.w) := by
  intro pins s σ H vs us Q I r h
  obtain ⟨a, xs, rfl, hs, hl, q⟩ := h
  obtain ⟨u, rfl, ru⟩ := r.one
  cases ru
  obtain ⟨its, rv, isl, _⟩ := I.list hs
  obtain ⟨sl, vals⟩ := strs_vals rv
  refine set_list_call (xs := xs) (I.ok.hd hc) (show s.heap.IsList a its.toArray from isl.isList) (fun i v hv => vals i v (by simpa using hv)) (by rw [List.size_toArray, sl]) (by unfold scanBound; omega) fun h' tk c hcl set keep => ?_
  have nn : H s.heap.objs.size = none := I.hok.fresh (Nat.le_refl _)
  exact ⟨.ref s.heap.objs.size, _, I.laid (t' := tk) (o := SetK X.prog X.w s.heap.objs.size (inL xs) c) keep (Nat.le_refl _) (setK_new set), rfl, q _ c nn hcl⟩
/-! within a comprehension's block -/
section
variable {X : Cx} {P : Program} {w : World}
theorem or_sinK' (hP : X.prog = P) (hw : X.w = w) : OpR X (compareOp .In) (rSInK P w false) := by subst hP; subst hw; exact or_sinK
theorem or_snotinK' (hP : X.prog = P) (hw : X.w = w) : OpR X (compareOp .NotIn) (rSInK P w true) := by subst hP; subst hw; exact or_snotinK
end
end Nn

namespace Nn
open PySem PySem.Spec PyProof.Rows L2
/-! ### dict.get of a key that may be None (the dict's keys are numbers and texts) -/
section
variable {X : Cx} {pins : List (Addr × Obj)} {σ : L2.St} {H : Hp} {s : Shared} {a : Addr} {kvs : List (Key × V)} {A : Around} {E : Value → Shared → Prop} {d : V} {r : Value}
theorem d_getNone2 {Q : Value → Shared → Prop} (I : Inv X pins σ H s) (e : Rd H a (.dK kvs)) (rd : RelV d r) (h : ∀ w' s', Inv X pins σ H s' → RelV d w' → Q w' s') :
    wpAny (model X.prog X.w) A (call (.builtin "dict.get") [.ref a, .none, r]) Q E s := by
  obtain ⟨_, hd, vs, _, dd⟩ := dk_rd I.hok e
  obtain ⟨f, hm, hf⟩ := none_map dd
  refine call_meetsIn PySem.F.slot_dict_get dd.typeIs PySem.F.entry_dict_get (PySem.F.args_dict_get_3 _ _ _) (meets_dict_get_default (noneKind X.prog X.w) a (show (noneKind X.prog X.w).is none .none = true from rfl) hd r) ⟨_, hm, h _ _ (I.tok _) ?_⟩
  rw [hf]
  exact rd
end
def tDGet2N (td ty tx : TE) : TE := fun σ H Q => td σ H fun x H1 => ∃ a, x = .ref a ∧ IsD H1 a ∧ ty σ H1 fun y H2 => tx σ H2 fun z H3 => (∃ o, DGet H3 a y o ∧ Q (o.getD z) H3) ∨ ∃ kvs, y = .non ∧ Rd H3 a (.dK kvs) ∧ Q z H3
section
variable {X : Cx} {o e f : Expr} {apos cpos : Pos} {td ty tx : TE}
theorem pe_dget2N (hu : X.A.units + 1 < cLine) (ho : PE X o td) (he : PE X e ty) (hf : PE X f tx) (m : M2 X o "get" apos e f cpos) : PE X (.Call (.Attribute o "get" apos) [e, f] [] cpos) (tDGet2N td ty tx) := by
  refine ⟨fun pins s σ H Q I h => ?_⟩
  refine wpAny_Call_method m.base m.few m.line PySem.F.plainAttrs_dict PySem.F.slot_dict_get PySem.F.type_dict_get (thn (ho.run pins s σ H _ I h) fun u s1 ⟨x, H1, I1, rx, a, ex, d, q1⟩ => ?_)
  subst ex
  obtain rfl : u = Value.ref a := rx
  obtain ⟨t1, t2, _⟩ := isD_at I1 d
  refine ⟨t1, t2, ?_⟩
  rw [m.trees]
  refine Calls.callWith_builtin rfl (Calls.evalArgs_plain (Calls.spliced_cons (thn (he.run pins s1 σ H1 _ I1 q1) fun iv s2 ⟨y, H2, I2, ry, q2⟩ =>
    Calls.spliced_cons (thn (hf.run pins s2 σ H2 _ I2 q2) fun fv s3 ⟨z, H3, I3, rz, q3⟩ => Calls.spliced_nil ?_))))
  rcases q3 with ⟨ov, g, q3⟩ | ⟨kvs, ey, g, q3⟩
  · exact d_get2 hu I3 g ry rz fun w' s4 I4 rw' => ⟨_, H3, I4, rw', q3⟩
  · subst ey
    obtain rfl : iv = Value.none := ry
    exact d_getNone2 I3 g rz fun w' s4 I4 rw' => ⟨z, H3, I4, rw', q3⟩
end
theorem rd_dget2N {σ : L2.St} {H : Hp} {Q : VK} {td ty tx : TE} (k : td σ H fun x H1 => ∃ a, x = .ref a ∧ IsD H1 a ∧ ty σ H1 fun y H2 => tx σ H2 fun z H3 => (∃ o, DGet H3 a y o ∧ Q (o.getD z) H3) ∨ ∃ kvs, y = .non ∧ Rd H3 a (.dK kvs) ∧ Q z H3) : tDGet2N td ty tx σ H Q := k
end Nn

namespace Nn
open PySem PySem.Spec PyProof.Rows L2
/-! ### errors as values -/
section
variable {X : Cx} {pins : List (Addr × Obj)} {σ : L2.St} {H : Hp} {s : Shared}
/-- what is known of an object, said in another way -/
theorem inv_retag {a : Addr} {φ : Heap → Prop} {o' : HO} (I : Inv X pins σ H s) (ha : H a = some (.ext φ)) (new : ObjOk X.prog X.w H s.heap a o') : Inv X pins σ (upd H a o') s := by
  have old : ∀ {b : Addr} {o : HO}, H b = some o → (∀ ψ, o ≠ .ext ψ) → upd H a o' b = some o := fun {b o} e h => by
    rw [upd_ne (fun q => by rw [q, ha] at e; exact h φ (Option.some.inj e).symm)]; exact e
  have non : ∀ {b : Addr}, H b = none → upd H a o' b = none := fun {b} e => by
    rw [upd_ne (fun q => by rw [q, ha] at e; cases e)]; exact e
  refine ⟨I.ok, I.os, I.bare, ⟨I.base.keep, I.base.slot, fun b o e n x => non (I.base.free b o e n x), I.base.there, fun b xs q => old (I.base.tups b xs q) (fun _ h => by cases h), fun b o u q => old (I.base.frzs b o u q) (fun _ h => by cases h), fun b ps q => ?_⟩, I.loc, I.cell, non I.free, fun x c e => non (I.freeC x c e), fun p hp => ?_, fun b o e => ?_, I.len⟩
  · obtain ⟨m, r⟩ := I.base.tbls b ps q
    exact ⟨m, old r (fun _ h => by cases h)⟩
  · obtain ⟨p1, p2, p3, p4, p5⟩ := I.pin p hp
    exact ⟨p1, non p2, p3, p4, p5⟩
  · by_cases hb : b = a
    · subst hb
      rw [upd_same] at e
      cases e
      exact new.stay (fun _ _ _ q => q) (fun _ q => old q (fun _ h => by cases h)) fun _ _ q => old q (fun _ h => by cases h)
    · rw [upd_ne hb] at e
      exact (I.hok b o e).stay (fun _ _ _ q => q) (fun _ q => old q (fun _ h => by cases h)) fun _ _ q => old q (fun _ h => by cases h)
end
/-- X(e), an own error with an own __init__, as a value -/
def tMkV (C : Addr) (sp : Sp) (dvs : List V) (ta : TA) : TE := fun σ H Q => ta σ H fun vs H1 => vs.length ≤ 1000 ∧ ∀ a, H1 a = none → sp (.ref a :: (vs ++ dvs)) (upd H1 a (exo a C none))
  (fun v H2 => v = .non ∧ ∃ (d : Addr) (fs : List (Str × V)), H2 a = some (exo a C (some d)) ∧ H2 d = some (exd d fs) ∧ d ≠ a ∧ Q (.ref a) (upd (upd H2 a (ExH (.ref C) (some d) a)) d (.xd fs))) (fun _ _ _ => False)
section
variable {X : Cx} {e : Expr} {es : List Expr} {ta : TA} {p pos : Pos}
theorem pe_oexV {CX : CXT} {x : Str} {C fI : Addr} {k : Nat} {fd : FuncData} {ps : List Str} {sp : Sp} {ds : List Value} {dvs : List V} (T : OexC X.K C) (iC : PySem.W.findIn X.K (.ref C) "__init__" = some (some (.ref fI))) (tI : PySem.W.typeIn X.K (.ref fI) = some (.type "function"))
    (F1 : FnOk X.prog X.w X.K X.mg X.base CX k fI fd ps sp) (hr : Room (k + 1) X.A) (hb : Binds X.K fd ps ds) (hd : Vals dvs ds) (hx : Passes CX X (fun _ _ _ => False)) (hg : Gl X x) (hm : X.mg x = some (.ref C)) (ha : PA X (e :: es) ta)
    (hdb : (x == ("__debug__" : Str)) = false := by decide) (he : starEach (e :: es) X.env = (false, eval e X.env) :: starEach es X.env := by rfl) (hpl : (backTo pos (starEach es X.env)).any (·.1) = false := by rfl) :
    PE X (.Call (.Name x p) (e :: es) [] pos) (tMkV C sp dvs ta) := by
  refine ⟨fun pins s σ H Q I h => ?_⟩
  obtain ⟨nm, q, N, bs, bm, sn, sub, ab, col, dd, k0, k1, k2, k3, k5, hC, hbm⟩ := T.cls
  refine wpAny_Call_Name_kw (ld_glob I hg hm ?_ hdb)
  refine PySem.W.callWith_K (h₀ := X.base) I.ok.mod.kin T.kC (thn (ha.run pos pins s σ H _ I h) fun us s1 ⟨vs, H1, I1, r1, hz, q1⟩ => ⟨I1.kIn, ?_⟩) he hpl
  show wpAny _ _ (call (.ref C) us) _ _ _
  obtain ⟨hp, g, dr, tk, os⟩ := s1
  have hsz : hp.objs.size ≤ hp.objs.size + 1 := Nat.le_succ _
  have hn : H1 (hp.objs.size + 1) = none := I1.hok.fresh hsz
  have hq := q1 (hp.objs.size + 1) hn
  have kk : ∀ b o, hp.get? b = some o → ((hp.push (PySem.W.kdv_tup us)).push (PySem.HandSPX.excO C hp.objs.size)).get? b = some o := fun b o e => Heap.get?_push_of_some _ (Heap.get?_push_of_some _ e)
  have hget : ((hp.push (PySem.W.kdv_tup us)).push (PySem.HandSPX.excO C hp.objs.size)).get? (hp.objs.size + 1) = some (PySem.HandSPX.excO C hp.objs.size) := by heap_get
  have I2 : Inv X pins σ (upd H1 (hp.objs.size + 1) (exo (hp.objs.size + 1) C none)) ⟨(hp.push (PySem.W.kdv_tup us)).push (PySem.HandSPX.excO C hp.objs.size), g, dr, tk, os⟩ :=
    I1.laid (t' := tk) (a := hp.objs.size + 1) (o := exo (hp.objs.size + 1) C none) (h' := (hp.push (PySem.W.kdv_tup us)).push (PySem.HandSPX.excO C hp.objs.size)) kk hsz (exo_ok hget)
  have r2 : Vals (V.ref (hp.objs.size + 1) :: (vs ++ dvs)) (Value.ref (hp.objs.size + 1) :: (us ++ ds)) := .cons rfl (r1.append hd)
  have hl : (Value.ref (hp.objs.size + 1) :: us ++ ds).length = ps.length := by
    have e := r2.length
    rw [F1.len _ _ _ _ hq] at e
    exact e.symm
  have hus : us.length ≤ sizeLine := by
    rw [← Paired.length r1, sizeLine_eq]
    omega
  refine wpAny_call (PySem.HandSPX.call_own F.excBase_ValueError (fun Y => PySem.HandSPX.refsVE_contains Y bm hbm) (I1.kIn _ _ hC) (PySem.W.looks_findIn I1.kIn iC) (fun self => PySem.W.bind_fn I1.kIn self tI) hus
    (codeAny_mono (F1.run _ X.stack _ _ ⟨Value.ref (hp.objs.size + 1) :: us, []⟩ (Value.ref (hp.objs.size + 1) :: (us ++ ds)) _ _ (fun _ _ _ => False) (hr.make C us []) (I2.env0.make C us []) (hb _ (Value.ref (hp.objs.size + 1) :: us) I2.kIn hl) r2 hq) fun r s' hq' => ?_))
  cases r with
  | error er => exact hx pins σ _ _ er s' I2 hq'
  | ok fl =>
    cases fl with
    | ret u =>
      obtain ⟨v, H2, I3, rv, ev, d, fs, ea, ed, hne, q2⟩ := I2.after hq'
      subst ev
      obtain ⟨t1, he1⟩ := exo_at I3.hok ea
      have I4 := inv_retag I3 ea (exH_ok he1 ⟨rfl, rfl⟩ rfl)
      have ed' : upd H2 (hp.objs.size + 1) (ExH (.ref C) (some d) (hp.objs.size + 1)) d = some (exd d fs) := by rw [upd_ne hne]; exact ed
      have I5 := inv_retag (o' := .xd fs) I4 ed' (exd_at I3.hok ed)
      exact ⟨rv, V.ref (hp.objs.size + 1), _, I5, rfl, q2⟩
    | next => exact False.elim hq'
    | brk => exact False.elim hq'
    | cont => exact False.elim hq'
theorem pe_errV {j k : Nat} {C : Addr} {x fld : Str} {ok : V → Hp → Prop} {te : TE} (c : ErrMk X.prog X.w X.K X.mg X.base k x C fld ok) (hr : Room j X.A) (hk : k + 1 ≤ j) (hg : Gl X x) (he : PE X e te) (hdb : (x == ("__debug__" : Str)) = false := by decide)
    (hs : starEach [e] X.env = (false, eval e X.env) :: starEach [] X.env := by rfl) (hpl : (backTo pos (starEach [] X.env)).any (·.1) = false := by rfl) :
    PE X (.Call (.Name x p) [e] [] pos) (tMkV C (spErr C fld ok) [] (tCons te tNil)) := by
  obtain ⟨f, fd, ps, T, iC, tI, F, b, hm⟩ := c.ex
  exact pe_oexV T iC tI F (hr.mono hk) b .nil pass0 hg hm (pa_cons he pa_nil hs) hdb hs hpl
end
section
variable {σ : L2.St} {H H0 : Hp} {C : Addr} {fld : Str} {ok : V → Hp → Prop} {te : TE} {Q : VK} {y : V} {M : List Addr} {L T : List (Addr × HO)}
theorem rd_mkV {sp : Sp} (k : te σ H fun y H1 => [y].length ≤ 1000 ∧ ∀ a, H1 a = none → sp (.ref a :: ([y] ++ [])) (upd H1 a (exo a C none)) (fun v H2 => v = .non ∧ ∃ (d : Addr) (fs : List (Str × V)), H2 a = some (exo a C (some d)) ∧ H2 d = some (exd d fs) ∧ d ≠ a ∧ Q (.ref a) (upd (upd H2 a (ExH (.ref C) (some d) a)) d (.xd fs))) (fun _ _ _ => False)) :
    tMkV C sp [] (tCons te tNil) σ H Q := k
/-- the end of X(y) as a value -/
theorem rd_errV {E : XK} (ho : ∀ a, H a = none → ok y (upd H a (exo a C none))) (k : ∀ a d, H a = none → H d = none → d ≠ a → Q (.ref a) (upd (upd H a (ExH (.ref C) (some d) a)) d (.xd [(fld, y)]))) :
    [y].length ≤ 1000 ∧ ∀ a, H a = none → spErr C fld ok (.ref a :: ([y] ++ [])) (upd H a (exo a C none)) (fun v H2 => v = .non ∧ ∃ (d : Addr) (fs : List (Str × V)), H2 a = some (exo a C (some d)) ∧ H2 d = some (exd d fs) ∧ d ≠ a ∧ Q (.ref a) (upd (upd H2 a (ExH (.ref C) (some d) a)) d (.xd fs))) E := by
  refine ⟨(show 1 ≤ 1000 by decide), fun a ha => ⟨a, y, rfl, ho a ha, upd_same, fun dx hdx hne => ⟨rfl, dx, [(fld, y)], upd_same, ?_, hne, ?_⟩⟩⟩
  · rw [upd_ne hne, upd_same]
  · have hd : H dx = none := by rw [upd_ne hne] at hdx; exact hdx
    have e : upd (upd (upd (upd (upd H a (exo a C none)) dx (exd dx [(fld, y)])) a (exo a C (some dx))) a (ExH (.ref C) (some dx) a)) dx (.xd [(fld, y)]) = upd (upd H a (ExH (.ref C) (some dx) a)) dx (.xd [(fld, y)]) := by
      funext b
      by_cases h1 : b = dx
      · rw [h1, upd_same, upd_same]
      · rw [upd_ne h1, upd_ne h1]
        by_cases h2 : b = a
        · rw [h2, upd_same, upd_same]
        · rw [upd_ne h2, upd_ne h2, upd_ne h2, upd_ne h1, upd_ne h2]
    rw [e]
    exact k a dx ha hd hne
end
section
variable {C : Addr} {N : List Str} {vs : List V} {H : Hp} {Q : VK} {E : XK} {c c2 : Str}
/-- a row's number -/
def okJ : V → Hp → Prop := fun y _ => ∃ i : Int, y = .int i ∧ 0 ≤ i ∧ i < 10 ^ 12
theorem row_log {i : Int} (h0 : 0 ≤ i) (h1 : i < 10 ^ 12) : i.natAbs.log2 < 1920 := by
  have hb : i.natAbs < 2 ^ 40 := by omega
  exact Nat.lt_of_lt_of_le (PySem.Flt.log2_lt_of (by decide) hb) (by decide)
theorem sup_cIc (hc : c.length ≤ 1000) (hc2 : c2.length ≤ 1000) (fld : Str) (h : spErr C fld okJ vs H Q E) : spSup C N fld (tTexts [tC (.str c), tFmt (tVar 1), tC (.str c2)]) vs H Q E := by
  obtain ⟨a, y, rfl, ⟨i, rfl, h0, h1⟩, ha, k⟩ := h
  have s1 : (100000 : Nat) + 2000 ≤ sizeLine := by decide
  have l1 : (Str.empty ++ c).length ≤ sizeLine := by rw [Str.length_append]; show 0 + _ ≤ _; omega
  have l0 := PyProof.Rows.toString_length_le h0 (show 0 < 12 by decide) h1
  refine ⟨a, .int i, rfl, ha, c, rfl, l1, .int i, rfl, .inr ⟨i, rfl, row_log h0 h1, _, rfl, ?_, c2, rfl, ?_, (show 1 ≤ 1000 by decide), rfl, k⟩⟩
  · rw [Str.length_append, Str.length_append]; show 0 + _ + _ ≤ _; omega
  · rw [Str.length_append, Str.length_append, Str.length_append]; show 0 + _ + _ + _ ≤ _; omega
end
section
variable {X : Cx} {e : Expr} {te : TE} {p pos : Pos}
/-- NoName(e) as a value -/
def tMkN (C : Addr) (te : TE) : TE := fun σ H Q => te σ H fun _ H1 => ∀ a, H1 a = none → ∃ (b : Addr) (H0 : Hp), V.ref a = .ref b ∧ H0 b = none ∧ upd H1 a (ExO (.ref C) a) = upd H0 b (ExO (.ref C) b) ∧ Q (.ref b) (upd H0 b (ExH (.ref C) none b))
theorem pe_nonameV {x : Str} {C : Addr} (c : NoNameC X.K X.mg x C) (hg : Gl X x) (he : PE X e te) (hs : starEach [e] X.env = (false, eval e X.env) :: starEach [] X.env := by rfl) (hdb : (x == ("__debug__" : Str)) = false := by decide) :
    PE X (.Call (.Name x p) [e] [] pos) (tMkN C te) := by
  refine ⟨fun pins s σ H Q I h => ?_⟩
  have P := pe_exc1 (p := p) (pos := pos) F.excBase_ValueError c.ex c.g c.k hg he hs hdb
  refine wpAny_mono (P.run pins s σ H (fun x H1 => ∃ (b : Addr) (H0 : Hp), x = .ref b ∧ H0 b = none ∧ H1 = upd H0 b (ExO (.ref C) b) ∧ Q (.ref b) (upd H0 b (ExH (.ref C) none b))) I h) (fun u s1 hu => ?_) fun _ _ x => x
  obtain ⟨v, H1, I1, r1, b, H0, rfl, h0, rfl, q⟩ := hu
  obtain ⟨⟨oe, vs, ho, hz, hd, _⟩, _⟩ := (show ObjOk X.prog X.w (upd H0 b (ExO (.ref C) b)) s1.heap b (ExO (.ref C) b) from I1.hok b _ upd_same)
  have I2 := inv_retag (o' := ExH (.ref C) none b) I1 upd_same (exH_ok ho hz hd)
  have e : upd (upd H0 b (ExO (.ref C) b)) b (ExH (.ref C) none b) = upd H0 b (ExH (.ref C) none b) := by
    funext d
    by_cases h : d = b
    · rw [h, upd_same, upd_same]
    · rw [upd_ne h, upd_ne h, upd_ne h]
  rw [e] at I2
  exact ⟨_, _, I2, r1, q⟩
theorem rd_mkN {C : Addr} {σ : L2.St} {H : Hp} {Q : VK} (k : te σ H fun _ H1 => ∀ a, H1 a = none → ∃ (b : Addr) (H0 : Hp), V.ref a = .ref b ∧ H0 b = none ∧ upd H1 a (ExO (.ref C) a) = upd H0 b (ExO (.ref C) b) ∧ Q (.ref b) (upd H0 b (ExH (.ref C) none b))) : tMkN C te σ H Q := k
theorem mkN_end {C : Addr} {H1 : Hp} {Q : VK} (k : ∀ a, H1 a = none → Q (.ref a) (upd H1 a (ExH (.ref C) none a))) : ∀ a, H1 a = none → ∃ (b : Addr) (H0 : Hp), V.ref a = .ref b ∧ H0 b = none ∧ upd H1 a (ExO (.ref C) a) = upd H0 b (ExO (.ref C) b) ∧ Q (.ref b) (upd H0 b (ExH (.ref C) none b)) :=
  fun a ha => ⟨a, H1, rfl, ha, rfl, k a ha⟩
end
theorem rd_dpop1 {σ : L2.St} {H : Hp} {Q : VK} {td ty : TE} (k : td σ H fun x H1 => ∃ a, x = .ref a ∧ IsD H1 a ∧ ty σ H1 fun y H2 => ∃ kvs k v, H2 a = some (.dK kvs) ∧ y = kV k ∧ valV kvs k = some v ∧ Q v (upd H2 a (.dK (dropK kvs k)))) : tDPop1 td ty σ H Q := k
theorem rd_ddel {σ : L2.St} {H : Hp} {n : L2.St → Hp → Prop} {rt : VK} {bk ct : L2.St → Hp → Prop} {td ty : TE} (k : td σ H fun x H1 => ty σ H1 fun y H2 => ∃ a kvs k, x = .ref a ∧ H2 a = some (.dK kvs) ∧ y = kV k ∧ (valV kvs k).isSome = true ∧ n σ (upd H2 a (.dK (dropK kvs k)))) : sDDel td ty ⟨n, rt, bk, ct⟩ σ H := k
/-! ### what may raise, where it doesn't -/
section
variable {P : Program} {w : World} {K : PySem.W.Frag} {mg : Str → Option Value} {base : Heap} {k : Nat}
theorem noX {f : Addr} {fd : FuncData} {ps : List Str} {sp : Sp} (F : FnOk P w K mg base (L2.CX P w) k f fd ps sp) : FnOk P w K mg base CX0 k f fd ps (fun vs H Q _ => sp vs H Q fun _ _ _ => False) :=
  ⟨fun vs H Q E h => F.len vs H Q _ h, fun A outer s H args us vs Q E hr he hb hv hs => codeAny_mono (F.run A outer s H args us vs Q _ hr he hb hv hs) fun r s' h => by
    cases r with
    | error e =>
      obtain ⟨_, _, _, _, _, _, _, _, _, _, _, _, _, h⟩ := h
    | ok x => cases x <;> exact h⟩
theorem ClX.noX {x : Str} {sp sp' : Sp} (c : ClX P w K mg base k x sp) (h : ∀ vs H Q E, sp' vs H Q E → sp vs H Q fun _ _ _ => False) : Cl P w K mg base k x sp' := by
  obtain ⟨f, fd, ps, F, hm, kp, b⟩ := c.ex
  exact ⟨_, _, _, (Nn.noX F).imp h, hm, kp, b⟩
theorem MrX.noX {x : Str} {C : Addr} {sp sp' : Sp} (c : MrX P w K mg base k x C sp) (h : ∀ vs H Q E, sp' vs H Q E → sp vs H Q fun _ _ _ => False) : Mr P w K mg base k x C sp' := by
  obtain ⟨f, fd, ps, M, F, hm, b⟩ := c.ex
  exact ⟨_, _, _, M, (Nn.noX F).imp h, hm, b⟩
end
end Nn

namespace Nn
open PySem PySem.Spec PyProof.Rows L2
section
variable {X : Cx} {x : Str} {pos : Pos}
/-- a text of the module's top -/
theorem pe_gstr {z : Str} (hg : Gl X x) (h : ∃ t, X.mg x = some (.str z t)) (hd : (x == ("__debug__" : Str)) = false := by decide) : PE X (.Name x pos) (tC (.str z)) := by
  obtain ⟨t, h⟩ := h
  exact pe_glob hg h ⟨t, rfl⟩ hd
end
/-! ### d = {k: v for ..} (a statement of its own) -/
section
variable {X : Cx}
theorem sw_trueD {kx vx : Expr} {gs : List Comprehension} {scope : Scope} {pos py : Pos} {y : Str} {l : Nat} {env : Env} (hk : env.scope.kind = .function) (hy : env.scope.names.lookup y = some .local) (hl : (py.line == pos.line) = true)
    (ha : (scope.names.any fun (n, k) => n == y && (k == .local || k == .cell)) = false) : swapsWith (.DictComp kx vx gs scope pos) (some (.Name y py)) l env = pure true := by
  have ky : env.kindOf y = some .local := hy
  have hb : env.blockKind = .function := by unfold Env.blockKind; rw [hk]; rfl
  unfold swapsWith
  simp only [hb, ky, ha, Expr.pos, hl]
  rfl
theorem ps_setDc {i : Nat} {y : Str} {py : Pos} {kx vx tg iter : Expr} {ifs : List Expr} {scope : Scope} {own : List (Str × Nat)} {pos spos : Pos} {wi : TI} {g : TG} {tt : TT} {tk tv : TE} (hc : X.calm = true) (hN : X.N.Nodup) (hy : X.N[i]? = some y) (hyl : X.env.scope.names.lookup y = some .local)
    (hsw : swapsWith (.DictComp kx vx [⟨tg, iter, ifs, 0⟩] scope pos) (some (.Name y py)) spos.line X.env = pure true) (hi : PI X tg iter wi) (ok : BlkOk X.N X.env.scope scope own)
    (hg : ∀ (s : Shared) (H : Hp) (C : Addr) (cl : List (Str × Addr)) (fp : List Addr), PG (X.blk s H scope (compEnvC scope cl C X.env) fp) tg g) (ht : ∀ (s : Shared) (H : Hp) (C : Addr) (cl : List (Str × Addr)) (fp : List Addr), PTs (X.blk s H scope (compEnvC scope cl C X.env) fp) ifs tt)
    (hk : ∀ (s : Shared) (H : Hp) (C : Addr) (cl : List (Str × Addr)) (fp : List Addr), PE (X.blk s H scope (compEnvC scope cl C X.env) fp) kx tk)
    (he : ∀ (s : Shared) (H : Hp) (C : Addr) (cl : List (Str × Addr)) (fp : List Addr), PE (X.blk s H scope (compEnvC scope cl C X.env) fp) vx tv) (hs : ∀ x, foldedSetIterable iter X.env x = pure x := by intro _; rfl) :
    PS X (.Assign [.Name y py] (.DictComp kx vx [⟨tg, iter, ifs, 0⟩] scope pos) spos) (tAsg (tDc wi g tt tk tv (own.map (·.2))) (gName i)) := by
  refine ⟨fun pins s σ H D I h => ?_⟩
  rw [exec_Assign_Name_used _ _ _ _ hsw]
  refine wpAny_bind (wpAny_standAt (wpAny_bind ?_))
  show wpAny _ X.A (do let _ ← comprehension (.DictComp kx vx [⟨tg, iter, ifs, 0⟩] scope pos) scope X.env (firstIterPos [⟨tg, iter, ifs, 0⟩] pos) newDict false (eval iter X.env) (some (assign (.Name y py) X.env))) _ _ s
  have h : tDc wi g tt tk tv (own.map (·.2)) σ H (fun x H1 => gName i x σ H1 D.nx) := h
  refine wpAny_bind (thn (dc_core (Qf := fun _ s' => SP X pins D .next s') hc hN I hi ok hg ht hk he hs h fun L C s' m H' I' q hn f => ?_) fun _ s' hq => wpAny_pure (wpAny_pure hq))
  show wpAny _ _ (assign (.Name y py) X.env (.ref L)) _ _ _
  refine wpAny_assign_Name (store_ok2 (v := V.ref L) I' hN hy (.inl hyl) rfl (fun s2 I2 ⟨a, sb, ha⟩ => ?_) (.inr hyl))
  obtain ⟨f0, f1, f2, f3, f4, f5⟩ := f
  have haC : C ≠ a := by
    rcases ha with z | z
    · rw [z]; exact f1
    · exact fun e => f4 y a z e.symm
  refine ⟨m, hn.sameBut sb haC, fun h3 sb3 => ?_⟩
  exact ⟨_, H', I2.turned (t' := s2.toks) (fun b o hb e => (sb3.2 b hb).trans e) f0 f1 f3 f4 f5, q⟩
end
end Nn

namespace Nn
open PySem PySem.Spec PyProof.Rows L2
/-! ### repr(x) != repr(y) of one thing: whatever is under way, both tell the same -/
section
variable {α : Type} {M : Model} {A : Around} {E : Value → Shared → Prop} {s : Shared} {m : Sem α} {Q : α → Shared → Prop}
/-- the guards of the stack may be taken as known -/
theorem wpAny_guards (h : ∀ g, (∀ l, A.guards = some l → l = g) → wpAny M { A with guards := some g } m Q E s) : wpAny M A m Q E s := fun Γ p hΓ =>
  h (Γ.code.guards ++ guardsOf Γ.below) (fun l hl => (hΓ.2.2.2.1 l hl).symm) Γ p ⟨hΓ.1, hΓ.2.1, hΓ.2.2.1, fun _ e => Option.some.inj e, hΓ.2.2.2.2⟩
theorem wpAny_known {g : List Code} (hg : ∀ l, A.guards = some l → l = g) (h : wpAny M A m Q E s) : wpAny M { A with guards := some g } m Q E s := fun Γ p hΓ =>
  h Γ p ⟨hΓ.1, hΓ.2.1, hΓ.2.2.1, fun l hl => (hΓ.2.2.2.1 g rfl).trans (hg l hl).symm, hΓ.2.2.2.2⟩
end
def guardB (g : List Code) (a : Addr) : Bool := g.any fun c => tupGuardF (.ref a) (c, default)
section
variable {prog : Program} {w : World} {A : Around} {E : Value → Shared → Prop} {s : Shared}
theorem repr_tuple_known {g : List Code} (hg : A.guards = some g) {a : Addr} {o : Obj} {items : Array Value} {n : Nat} {ts : List Str} {Q : Value → Shared → Prop} (ha : s.heap.get? a = some o) (hc : o.cls = .type "tuple") (hd : o.data = .seq items n) (hT : ReprAll prog w items.toList ts) (hsz : (tupleText ts).length ≤ sizeLine)
    (h : ∀ (u tk : Tok), Q (.str (if guardB g a = true then ("(...)" : Str) else tupleText ts) u) { s with toks := tk }) : wpAny (model prog w) A (call (.builtin "tuple.__repr__") [.ref a]) Q E s := by
  refine wpAny_call (codeAny_call_builtin_own (Code.quiet_builtin _ (by decide +kernel)) F.entry_tuple_repr (F.slot_tuple_repr.check _ _ _ _ _ _ _ _ ⟨o, ha, hc⟩ (F.args_tuple_repr_1 _) ?_))
  show wpOwn _ _ _ (Builtin.tupleReprAt 0 ⟨[.ref a], []⟩) _ _ s
  rw [tuple_repr_tree, tupleReprUnderWay_eq]
  refine wpOwn_bind (wpOwn_stackTailAny hg (tupGuardF_off _) (tupGuardF_pos _) ?_)
  show wpOwn _ _ _ (if guardB g a = true then _ else _) _ _ s
  cases hb : guardB g a with
  | true =>
    rw [hb] at h
    refine wpOwn_of_wpAny ?_
    refine PySem.W.KFB.if_so rfl ?_
    refine wpAny_bind (wpAny_rule ?_)
    refine wpAny_bind (wpAny_mkStr (wpAny_pure ?_) (by decide +kernel))
    exact h _ _
  | false =>
    rw [hb] at h
    refine wpOwn_of_wpAny ?_
    refine PySem.W.KFB.if_not rfl ?_
    refine wpAny_tupleReprRest ha hd hT (fun u tk => ?_) (by omega)
    exact h u tk
end
/-- what repr tells of x: b, its tuple's repr is under way -/
def RepIs (K : PySem.W.Frag) (H : Hp) (x : V) (tx : Bool → Str) : Prop :=
  (x = .non ∧ tx = fun _ => ("None" : Str)) ∨ (∃ i : Int, x = .int i ∧ i.natAbs.log2 < 1920 ∧ tx = fun _ => ((toString i : String) : Str)) ∨ (∃ z, x = .str z ∧ (reprText z).length ≤ sizeLine ∧ tx = fun _ => reprText z) ∨
  ∃ (a : Addr) (l : List Str), x = .ref a ∧ SqT K H a (l.map V.str) ∧ (∀ y ∈ l, (reprText y).length ≤ sizeLine) ∧ (tupleText (l.map reprText)).length ≤ sizeLine ∧ tx = fun b => if b = true then ("(...)" : Str) else tupleText (l.map reprText)
def bOf (g : List Code) : V → Bool
  | .ref a => guardB g a
  | _ => false
section
variable {X : Cx} {A : Around} {E : Value → Shared → Prop} {s : Shared} {pins : List (Addr × Obj)} {σ : L2.St} {H : Hp} {x : V} {u : Value} {tx : Bool → Str} {g : List Code}
theorem repr_known (hu : A.units + 1 < cLine) (hg : A.guards = some g) (I : Inv X pins σ H s) (rx : RelV x u) (r : RepIs X.K H x tx) {Q : Value → Shared → Prop} (h : ∀ t tk, Q (.str (tx (bOf g x)) t) { s with toks := tk }) : wpAny (model X.prog X.w) A (call (.builtin "repr") [u]) Q E s := by
  rcases r with ⟨rfl, rfl⟩ | ⟨i, rfl, hi, rfl⟩ | ⟨z, rfl, hz, rfl⟩ | ⟨a, l, rfl, hs, hl, hz, rfl⟩
  · cases rx
    exact PySem.P.repr_of_none (h _ _)
  · obtain ⟨t, rfl⟩ := rx
    exact PySem.P.repr_of_int hi (h _ _)
  · obtain ⟨t, rfl⟩ := rx
    exact PySem.P.repr_of_str (h _ _) hz
  · cases rx
    obtain ⟨its, rv, ⟨o, ho, hc, n, hd⟩, _⟩ := I.tuple hs
    exact call_repr_slot hu ⟨o, ho, hc⟩ F.slot_tuple_repr (repr_tuple_known (A := A.in1) hg ho hc hd (repr_all rv hl) hz fun t tk => ⟨_, t, rfl, h t tk⟩)
end
def tReprNe (K : PySem.W.Frag) (t1 t2 : TE) : TE := fun σ H Q => t1 σ H fun x H1 => ∃ tx, RepIs K H1 x tx ∧ t2 σ H1 fun y H2 => y = x ∧ RepIs K H2 x tx ∧ Q (.bl false) H2
section
variable {X : Cx} {e1 e2 : Expr} {t1 t2 : TE} {p1 p2 q1 q2 pos : Pos}
def One (Φ : V → Prop) : List V → Prop
  | [x] => Φ x
  | _ => False
theorem one_of {Φ : V → Prop} : ∀ {vs : List V} {us : List Value}, Vals vs us → One Φ vs → ∃ x u, vs = [x] ∧ us = [u] ∧ RelV x u ∧ Φ x
  | [], _, _, h => h.elim
  | [x], _, .cons (b := u) rx .nil, h => ⟨x, u, rfl, rfl, rx, h⟩
  | _ :: _ :: _, _, _, h => h.elim
theorem reprNe_core {g : List Code} (hgl : ∀ l, X.A.guards = some l → l = g) (hu : X.A.units + 1 < cLine) (hg : Gl X "repr") (hm : X.mg "repr" = none) (h1 : PE X e1 t1) (h2 : PE X e2 t2)
    (hs1 : starEach [e1] X.env = (false, eval e1 X.env) :: starEach [] X.env) (hp1 : (backTo q1 (starEach [] X.env)).any (·.1) = false)
    (hs2 : starEach [e2] X.env = (false, eval e2 X.env) :: starEach [] X.env) (hp2 : (backTo q2 (starEach [] X.env)).any (·.1) = false)
    {pins : List (Addr × Obj)} {s : Shared} {σ : L2.St} {H : Hp} {Q : VK} (I : Inv X pins σ H s) (h : tReprNe X.K t1 t2 σ H Q) {R : Value → Shared → Prop} (hR : ∀ H2 s3, Inv X pins σ H2 s3 → Q (.bl false) H2 → R (.bool false) s3) :
    wpAny (model X.prog X.w) { X.A with guards := some g } (eval (.Call (.Name "repr" p1) [e1] [] q1) X.env) (fun v s₁ => wpAny (model X.prog X.w) { X.A with guards := some g } (eval (.Call (.Name "repr" p2) [e2] [] q2) X.env) (fun u s₂ =>
      wpAny (model X.prog X.w) { X.A with guards := some g } (compareOp .NotEq v u) R X.xe s₂) X.xe s₁) X.xe s := by
  refine wpAny_Call_Name_kw (wpAny_known hgl (ld_blt I hg hm bootS_repr ?_ (by decide) (by decide)))
  have a1 : PA X [e1] (tCons t1 tNil) := pa_cons h1 pa_nil hs1
  have a2 : PA X [e2] (tCons t2 tNil) := pa_cons h2 pa_nil hs2
  refine PyProof.Rows.callWith_builtin1 (wpAny_mono (wpAny_known hgl (a1.run q1 pins s σ H (fun vs H1 => One (fun x => ∃ tx, RepIs X.K H1 x tx ∧ t2 σ H1 fun y H2 => y = x ∧ RepIs X.K H2 x tx ∧ Q (.bl false) H2) vs) I h)) (fun us s1 hus => ?_) fun _ _ x => x) hs1 hp1
  obtain ⟨vs, H1, I1, rv, hq⟩ := hus
  obtain ⟨x, u, e1, e2, rx, tx, r1, hq⟩ := one_of rv hq
  rw [e2]
  clear e1 e2 rv
  refine repr_known (A := { X.A with guards := some g }) hu rfl I1 rx r1 fun t tk => ?_
  have I2 : Inv X pins σ H1 { s1 with toks := tk } := I1.tok tk
  refine wpAny_Call_Name_kw (wpAny_known hgl (ld_blt I2 hg hm bootS_repr ?_ (by decide) (by decide)))
  refine PyProof.Rows.callWith_builtin1 (wpAny_mono (wpAny_known hgl (a2.run q2 pins _ σ H1 (fun vs H2 => One (fun y => y = x ∧ RepIs X.K H2 x tx ∧ Q (.bl false) H2) vs) I2 hq)) (fun us2 s2 hus2 => ?_) fun _ _ x => x) hs2 hp2
  obtain ⟨vs2, H2, I3, rv2, hq2⟩ := hus2
  obtain ⟨y, u2, e1, e2, ry, ey, r2, hq3⟩ := one_of rv2 hq2
  rw [e2]
  clear e1 e2 rv2
  subst ey
  refine repr_known (A := { X.A with guards := some g }) hu rfl I3 ry r2 fun t2 tk2 => ?_
  have I4 : Inv X pins σ H2 { s2 with toks := tk2 } := I3.tok tk2
  refine wpAny_known hgl ?_
  refine wpAny_mono (op_ne pins _ σ H2 (.str (tx (bOf g y))) (.str (tx (bOf g y))) _ _ (fun v H => v = .bl false ∧ Q (.bl false) H) I4 ⟨t, rfl⟩ ⟨t2, rfl⟩ ⟨rfl, ?_⟩) (fun c s3 hc => ?_) fun _ _ x => x
  · rw [decide_eq_true rfl]
    exact ⟨rfl, hq3⟩
  · obtain ⟨v, H5, I5, r5, ev, q5⟩ := hc
    subst ev
    cases r5
    exact hR H5 s3 I5 q5
theorem pe_reprNe (hu : X.A.units + 1 < cLine) (hg : Gl X "repr") (hm : X.mg "repr" = none) (h1 : PE X e1 t1) (h2 : PE X e2 t2)
    (hs1 : starEach [e1] X.env = (false, eval e1 X.env) :: starEach [] X.env := by rfl) (hp1 : (backTo q1 (starEach [] X.env)).any (·.1) = false := by rfl)
    (hs2 : starEach [e2] X.env = (false, eval e2 X.env) :: starEach [] X.env := by rfl) (hp2 : (backTo q2 (starEach [] X.env)).any (·.1) = false := by rfl) :
    PE X (.Compare (.Call (.Name "repr" p1) [e1] [] q1) [.NotEq] [.Call (.Name "repr" p2) [e2] [] q2] pos) (tReprNe X.K t1 t2) :=
  ⟨fun pins s σ H Q I h => wpAny_guards fun g hgl => wpAny_Compare1 (reprNe_core hgl hu hg hm h1 h2 hs1 hp1 hs2 hp2 I h fun H2 s3 J q => ⟨.bl false, H2, J, rfl, q⟩) (nobehind _ (by decide) (by decide))⟩
theorem pt_reprNe (hu : X.A.units + 1 < cLine) (hg : Gl X "repr") (hm : X.mg "repr" = none) (h1 : PE X e1 t1) (h2 : PE X e2 t2)
    (hs1 : starEach [e1] X.env = (false, eval e1 X.env) :: starEach [] X.env := by rfl) (hp1 : (backTo q1 (starEach [] X.env)).any (·.1) = false := by rfl)
    (hs2 : starEach [e2] X.env = (false, eval e2 X.env) :: starEach [] X.env := by rfl) (hp2 : (backTo q2 (starEach [] X.env)).any (·.1) = false := by rfl) :
    PT X (.Compare (.Call (.Name "repr" p1) [e1] [] q1) [.NotEq] [.Call (.Name "repr" p2) [e2] [] q2] pos) (tB (tReprNe X.K t1 t2)) :=
  ⟨fun pins s σ H Q I h => wpAny_guards fun g hgl => wpAny_isTrue_Compare1 (reprNe_core hgl hu hg hm h1 h2 hs1 hp1 hs2 hp2 I h fun H2 s3 J q => wpAny_truthy_bool (by
    obtain ⟨c, e, q⟩ := q
    cases e
    exact ⟨H2, J, q⟩)) (nobehind _ (by decide) (by decide))⟩
theorem rd_reprNe {K : PySem.W.Frag} {σ : L2.St} {H : Hp} {Q : VK} {t1 t2 : TE} (k : t1 σ H fun x H1 => ∃ tx, RepIs K H1 x tx ∧ t2 σ H1 fun y H2 => y = x ∧ RepIs K H2 x tx ∧ Q (.bl false) H2) : tReprNe K t1 t2 σ H Q := k
end
end Nn

namespace Nn
open PySem PySem.Spec PyProof.Rows L2
def topS (i : Nat) : Stmt := PySem.Challenge.pw_newnames_k17_refusals_made.main.body.getD i (.Pass ⟨0, 0, 0, 0⟩)
-- Twice.__init__: 0:self 1:name
abbrev sTwice___init__ : Stmt := inClass (topS 3) 0
abbrev NTwice___init__ : List Str := ["self", "name"]
abbrev PTwice___init__ : List Str := ["self", "name"]
-- Missing.__init__: 0:self 1:name
abbrev sMissing___init__ : Stmt := inClass (topS 4) 0
abbrev NMissing___init__ : List Str := ["self", "name"]
abbrev PMissing___init__ : List Str := ["self", "name"]
-- Held.__init__: 0:self 1:name
abbrev sHeld___init__ : Stmt := inClass (topS 5) 0
abbrev NHeld___init__ : List Str := ["self", "name"]
abbrev PHeld___init__ : List Str := ["self", "name"]
-- LetGo.__init__: 0:self 1:name
abbrev sLetGo___init__ : Stmt := inClass (topS 6) 0
abbrev NLetGo___init__ : List Str := ["self", "name"]
abbrev PLetGo___init__ : List Str := ["self", "name"]
-- NoSpare.__init__: 0:self 1:ring
abbrev sNoSpare___init__ : Stmt := inClass (topS 7) 0
abbrev NNoSpare___init__ : List Str := ["self", "ring"]
abbrev PNoSpare___init__ : List Str := ["self", "ring"]
-- NoRow.__init__: 0:self 1:row
abbrev sNoRow___init__ : Stmt := inClass (topS 8) 0
abbrev NNoRow___init__ : List Str := ["self", "row"]
abbrev PNoRow___init__ : List Str := ["self", "row"]
-- _law_begun: 0:_law_script 1:_law_wide 2:_law_cell
abbrev s_law_begun : Stmt := topS 10
abbrev N_law_begun : List Str := ["_law_script", "_law_wide", "_law_cell"]
abbrev P_law_begun : List Str := ["_law_script"]
theorem sc_law_begun : FnScope N_law_begun ["_law_script"] (defScope s_law_begun) := ⟨rfl, rfl, rfl, by decide +kernel, rfl, by decide +kernel, by decide +kernel⟩
-- _law_mixed: 0:_law_state 1:_law_found 2:_law_prime 3:_law_blend 4:_law_cell
abbrev s_law_mixed : Stmt := topS 11
abbrev N_law_mixed : List Str := ["_law_state", "_law_found", "_law_prime", "_law_blend", "_law_cell"]
abbrev P_law_mixed : List Str := ["_law_state"]
theorem sc_law_mixed : FnScope N_law_mixed ["_law_state"] (defScope s_law_mixed) := ⟨rfl, rfl, rfl, by decide +kernel, rfl, by decide +kernel, by decide +kernel⟩
-- _law_take: 0:_law_state 1:_law_size 2:_law_found
abbrev s_law_take : Stmt := topS 12
abbrev N_law_take : List Str := ["_law_state", "_law_size", "_law_found"]
abbrev P_law_take : List Str := ["_law_state", "_law_size"]
theorem sc_law_take : FnScope N_law_take ["_law_state", "_law_size"] (defScope s_law_take) := ⟨rfl, rfl, rfl, by decide +kernel, rfl, by decide +kernel, by decide +kernel⟩
-- _law_pick: 0:_law_state 1:_law_some
abbrev s_law_pick : Stmt := topS 13
abbrev N_law_pick : List Str := ["_law_state", "_law_some"]
abbrev P_law_pick : List Str := ["_law_state", "_law_some"]
theorem sc_law_pick : FnScope N_law_pick ["_law_state", "_law_some"] (defScope s_law_pick) := ⟨rfl, rfl, rfl, by decide +kernel, rfl, by decide +kernel, by decide +kernel⟩
-- _law_word: 0:_law_state 1:_law_turn
abbrev s_law_word : Stmt := topS 14
abbrev N_law_word : List Str := ["_law_state", "_law_turn"]
abbrev P_law_word : List Str := ["_law_state"]
theorem sc_law_word : FnScope N_law_word ["_law_state"] (defScope s_law_word) := ⟨rfl, rfl, rfl, by decide +kernel, rfl, by decide +kernel, by decide +kernel⟩
-- _law_ring: 0:_law_state 1:_law_found 2:_law_turn 3:_law_word_here 4:_law_near 5:_law_least 6:_law_letter 7:_law_one
abbrev s_law_ring : Stmt := topS 15
abbrev N_law_ring : List Str := ["_law_state", "_law_found", "_law_turn", "_law_word_here", "_law_near", "_law_least", "_law_letter", "_law_one"]
abbrev P_law_ring : List Str := ["_law_state"]
theorem sc_law_ring : FnScope N_law_ring ["_law_state"] (defScope s_law_ring) := ⟨rfl, rfl, rfl, by decide +kernel, rfl, by decide +kernel, by decide +kernel⟩
-- _law_made: 0:_law_state 1:_law_names 2:_law_ring_here 3:_law_row 4:_law_text 5:_law_made_here 6:_law_turn
abbrev s_law_made : Stmt := topS 16
abbrev N_law_made : List Str := ["_law_state", "_law_names", "_law_ring_here", "_law_row", "_law_text", "_law_made_here", "_law_turn"]
abbrev P_law_made : List Str := ["_law_state"]
theorem sc_law_made : FnScope N_law_made ["_law_state"] (defScope s_law_made) := ⟨rfl, rfl, rfl, by decide +kernel, rfl, by decide +kernel, by decide +kernel⟩
-- _law_kinds: 0:_law_error 1:_law_found
abbrev s_law_kinds : Stmt := topS 17
abbrev N_law_kinds : List Str := ["_law_error", "_law_found"]
abbrev P_law_kinds : List Str := ["_law_error"]
theorem sc_law_kinds : FnScope N_law_kinds ["_law_error"] (defScope s_law_kinds) := ⟨rfl, rfl, rfl, by decide +kernel, rfl, by decide +kernel, by decide +kernel⟩
-- _law_field: 0:_law_error 1:_law_at
abbrev s_law_field : Stmt := topS 18
abbrev N_law_field : List Str := ["_law_error", "_law_at"]
abbrev P_law_field : List Str := ["_law_error", "_law_at"]
theorem sc_law_field : FnScope N_law_field ["_law_error", "_law_at"] (defScope s_law_field) := ⟨rfl, rfl, rfl, by decide +kernel, rfl, by decide +kernel, by decide +kernel⟩
-- law: 0:_law_script 1:_law_state 2:_law_lots 3:_law_made_here 4:_law_due 5:_law_at 6:_law_error 7:_law_turn 8:_law_spot
abbrev slaw : Stmt := topS 19
abbrev Nlaw : List Str := ["_law_script", "_law_state", "_law_lots", "_law_made_here", "_law_due", "_law_at", "_law_error", "_law_turn", "_law_spot"]
abbrev Plaw : List Str := ["_law_script"]
theorem sclaw : FnScope Nlaw ["_law_script"] (defScope slaw) := ⟨rfl, rfl, rfl, by decide +kernel, rfl, by decide +kernel, by decide +kernel⟩
end Nn

namespace Nn
open PySem PySem.Spec PyProof.Rows L2
/-! ### min of a list of texts -/
theorem argBest_str (v : Nat → List Nat) : ∀ k, argBest (fun i j => decide (v i < v j)) k ≤ k ∧ ∀ j, j ≤ k → v (argBest (fun i j => decide (v i < v j)) k) ≤ v j
  | 0 => ⟨Nat.le_refl _, fun j hj => by
      have : j = 0 := by omega
      subst this; exact List.le_refl _⟩
  | k + 1 => by
    obtain ⟨h1, h2⟩ := argBest_str v k
    simp only [argBest]
    by_cases hc : v (k + 1) < v (argBest (fun i j => decide (v i < v j)) k)
    · rw [if_pos (by simpa using hc)]
      refine ⟨Nat.le_refl _, fun j hj => ?_⟩
      rcases Nat.lt_or_ge j (k + 1) with hlt | hge
      · exact List.le_trans (List.le_of_lt hc) (h2 j (by omega))
      · have : j = k + 1 := by omega
        subst this; exact List.le_refl _
    · rw [if_neg (by simpa using hc)]
      refine ⟨by omega, fun j hj => ?_⟩
      rcases Nat.lt_or_ge j (k + 1) with hlt | hge
      · exact h2 j (by omega)
      · have : j = k + 1 := by omega
        subst this; exact List.not_lt.mp hc
def txtAt (ss : List Str) (i : Nat) : Str := ss.getD i ⟨#[]⟩
theorem txt_mem {ss : List Str} {i : Nat} (h : i < ss.length) : txtAt ss i ∈ ss := by
  unfold txtAt
  rw [List.getD_eq_getElem?_getD, List.getElem?_eq_getElem h]
  exact List.getElem_mem h
theorem strs_at : ∀ {vs : List Value} {ss : List Str}, StrsAre vs ss → ∀ {i : Nat} {v : Value}, vs[i]? = some v → ∃ t, v = .str (txtAt ss i) t
  | _, _, .nil, i, v, h => by cases h
  | _, _, .cons y t r, 0, v, h => by cases h; exact ⟨t, rfl⟩
  | _, _, .cons y t r, i + 1, v, h => strs_at r (i := i) h
theorem strs_len : ∀ {vs : List Value} {ss : List Str}, StrsAre vs ss → vs.length = ss.length
  | _, _, .nil => rfl
  | _, _, .cons _ _ r => by rw [List.length_cons, List.length_cons, strs_len r]
section
variable {prog : Program} {w : World} {A : Around} {E : Value → Shared → Prop} {s : Shared} {l : Addr} {its : List Value} {ss : List Str} {Q : Value → Shared → Prop}
theorem cmp_strs {P : Nat → Value → Prop} (val : Nat → Str) (hval : ∀ i v, P i v → ∃ t, v = .str (val i) t) : CmpOf prog w A .Lt P (fun i j => decide ((val i).cps.toList < (val j).cps.toList)) := fun i j vi vj s Q E hi hj h => by
  obtain ⟨t, rfl⟩ := hval i vi hi
  obtain ⟨u, rfl⟩ := hval j vj hj
  exact richCompare_gives (op := .Lt) (typeIs_str s _ t) (typeIs_str s _ u) F.slot_str_lt F.entry_str_lt (F.args_str_lt_2 _ _) (gives_str_lt _ _ t u) (fun x => nomatch x) h
theorem min_strs (hh : A.handled = none) (hl : s.heap.IsList l its.toArray) (hi : StrsAre its ss) (hne : 0 < ss.length)
    (h : ∀ h' tk M t', (∀ b o, s.heap.get? b = some o → h'.get? b = some o) → M ∈ ss → (∀ a, a ∈ ss → M.cps.toList ≤ a.cps.toList) → Q (.str M t') { s with heap := h', toks := tk }) : wpAny (model prog w) A (call (.builtin "min") [.ref l]) Q E s := by
  have hlt : l < s.heap.objs.size := by obtain ⟨_, e, _⟩ := hl; exact Heap.lt_size e
  have hlen := strs_len hi
  refine call_min_walk (wpAny_pyIter_list hl ?_)
  refine ⟨_, _, _, _, _, _, _, rfl, Walks.list (A := A.in1) hh _ l (Nat.ne_of_lt hlt) its.toArray, ⟨⟨_, Heap.get?_push_size _ rfl, rfl, rfl⟩, hl.push _⟩, fun b hb => ?_, by simpa [hlen] using hne, cmp_strs (txtAt ss) (fun i v hv => strs_at hi (by simpa using hv)), fun v h' tk hP hk => ?_⟩
  · show b < (s.heap.push _).objs.size
    rw [Heap.size_push]
    rcases List.mem_cons.mp hb with rfl | hb
    · exact Nat.lt_succ_self _
    · rcases List.mem_cons.mp hb with rfl | hb
      · exact Nat.lt_succ_of_lt hlt
      · cases hb
  · obtain ⟨h1, h2⟩ := argBest_str (fun i => (txtAt ss i).cps.toList) (its.toArray.size - 1)
    obtain ⟨t, rfl⟩ := strs_at hi (i := argBest (fun i j => decide ((txtAt ss i).cps.toList < (txtAt ss j).cps.toList)) (its.toArray.size - 1)) (v := v) (by simpa using hP)
    have hsz : its.toArray.size = ss.length := by simpa using hlen
    refine h h' tk _ t (old_kept hk) ?_ fun a ha => ?_
    · exact txt_mem (by omega)
    · obtain ⟨j, hj, rfl⟩ := List.mem_iff_getElem.mp ha
      have := h2 j (by omega)
      have e : txtAt ss j = ss[j] := by unfold txtAt; rw [List.getD_eq_getElem?_getD, List.getElem?_eq_getElem hj]; rfl
      rw [← e]
      exact this
end
/-- min(xs) of a list of texts -/
def rMinS (K : PySem.W.Frag) : List V → Hp → VK → Prop := fun vs H Q => ∃ (a : Addr) (xs : List Str), vs = [V.ref a] ∧ SqL K H a (xs.map V.str) ∧ 0 < xs.length ∧ ∀ m, m ∈ xs → (∀ y, y ∈ xs → m.cps.toList ≤ y.cps.toList) → Q (.str m) H
theorem cr_minS {X : Cx} (hc : X.calm = true) : CallR X (.builtin "min") (rMinS X.K) := by
  intro pins s σ H vs us Q I r h
  obtain ⟨a, ns, rfl, hs, hne, q⟩ := h
  obtain ⟨its, rv, hl, _⟩ := I.list hs
  rw [Vals.ref1 r]
  exact min_strs (I.ok.hd hc) hl.isList rv.strs hne fun h' tk m t' hk h1 h2 => ⟨.str _, H, I.kept hk, ⟨_, rfl⟩, q m h1 h2⟩
end Nn

namespace Nn
open PySem PySem.Spec PyProof.Rows L2
local macro_rules | `(tactic| walk_at "rd1") => `(tactic| first
  | with_reducible refine' rd_c ?_
  | ((with_reducible refine' rd_var ?h ?_); (case h => rfl))
  | with_reducible refine' rd_op ?_
  | with_reducible refine' rd_I0 ?_
  | with_reducible refine' rd_seq ?_
  | ((with_reducible refine' rd_mod ?h ?_); (case h => decide))
  | ((with_reducible refine' rd_fdiv ?h ?_); (case h => exact ⟨by decide, by decide⟩))
  | ((with_reducible refine' rd_pow ?h ?_); (case h => exact ⟨by decide, by decide, by decide⟩))
  | ((with_reducible refine' rd_mul ?h ?_); (case h => first | exact Or.inl (by decide) | exact Or.inr (by decide)))
  | with_reducible refine' rd_set ?_
  | with_reducible refine' rd_asg ?_
  | with_reducible refine' rd_cons ?_
  | with_reducible refine' rd_nil ?_
  | with_reducible refine' rd_call ?_
  | with_reducible refine' rd_cb ?_
  | with_reducible refine' rd_if ?_
  | with_reducible refine' rd_test ?_
  | with_reducible refine' rd_B ?_
  | with_reducible refine' rd_bl ?_
  | ((with_reducible refine' rd_eq ?h ?_); (case h => rfl))
  | ((with_reducible refine' rd_ne ?h ?_); (case h => rfl))
  | with_reducible refine' rd_not ?_
  | with_reducible refine' rd_and ?_
  | with_reducible refine' rd_or ?_
  | with_reducible refine' rd_notV ?_
  | with_reducible refine' rd_chain ?_
  | with_reducible refine' rd_ret ?_
  | with_reducible refine' rd_drop ?_
  | with_reducible refine' rd_next' ?_
  | with_reducible refine' rd_lst ?_
  | with_reducible refine' rd_tup ?_
  | with_reducible refine' rd_lc ?_
  | with_reducible refine' rd_rng1 ?_
  | with_reducible refine' rd_istr ?_
  | with_reducible refine' rd_ilst ?_
  | with_reducible refine' rd_ienum ?_
  | with_reducible refine' rd_bm0 ?_
  | with_reducible refine' rd_bm ?_
  | with_reducible refine' rd_m1 ?_
  | with_reducible refine' rd_sl ?_
  | with_reducible refine' rd_po0 ?_
  | with_reducible refine' rd_po1 ?_
  | with_reducible refine' rd_in ?_
  | with_reducible refine' rd_sub ?_
  | with_reducible refine' rd_ifE ?_
  | with_reducible refine' rd_un ?_
  | with_reducible refine' rd_U ?_
  | with_reducible refine' rd_brk ?_
  | with_reducible refine' rd_cont ?_
  | with_reducible refine' rd_yes ?_
  | with_reducible refine' rd_T ?_
  | with_reducible refine' rd_F ?_
  | with_reducible refine' rd_nT ?_
  | with_reducible refine' rd_nF ?_
  | with_reducible refine' rd_dni ?_
  | with_reducible refine' rd_di ?_
  | with_reducible refine' rd_dget ?_
  | with_reducible refine' rd_dget1 ?_
  | with_reducible refine' rd_dget2 ?_
  | with_reducible refine' rd_dget2N ?_
  | with_reducible refine' rd_dpop1 ?_
  | with_reducible refine' rd_ddel ?_
  | with_reducible refine' rd_mkN ?_
  | with_reducible refine' rd_mkV ?_
  | with_reducible refine' rd_dput ?_
  | with_reducible refine' rd_dnew ?_
  | with_reducible refine' rd_ikeys ?_
  | with_reducible refine' rd_gn ?_
  | with_reducible refine' rd_for ?_
  | with_reducible refine' rd_make ?_
  | with_reducible refine' rd_meth ?_
  | with_reducible refine' rd_fld ?_
  | with_reducible refine' rd_sfld ?_
  | with_reducible refine' rd_dc ?_
  | with_reducible refine' rd_items ?_
  | with_reducible refine' rd_sadd ?_
  | with_reducible refine' rd_ivals ?_
  | with_reducible refine' rd_callS ?_
  | with_reducible refine' rd_makeS ?_
  | with_reducible refine' rd_methS ?_
  | with_reducible refine' rd_fldH ?_
  | with_reducible refine' rd_mkO ?_)
local macro_rules | `(tactic| walk_at "sub") => `(tactic| repeat' (first | exact List.nil_sublist _ | exact List.Sublist.refl _ | apply List.Sublist.cons₂ | apply List.Sublist.cons))
local macro_rules | `(tactic| walk_at "rd") => `(tactic| repeat walk_at "rd1")

section
variable {P : Program} {w : World} {K : PySem.W.Frag} {mg : Str → Option Value} {base : Heap}
/-! ### the state -/
def Sd (s : Int) : Prop := 0 ≤ s ∧ s < 2147483647
def spState : Sp := fun vs H Q _ => ∃ (c k : Int), vs = [.int c, .int k] ∧ ∀ s p H', Sd s → H p = none → H' p = some (.lst [.int s]) → Kp [] H H' → Q (.ref p) H'
def spNext : Sp := fun vs H Q _ => ∃ (S : Addr) (s n : Int), vs = [.ref S, .int n] ∧ H S = some (.lst [.int s]) ∧ Sd s ∧ 0 < n ∧ ∀ s' r H', Sd s' → 0 ≤ r → r < n → Kp [S] H H' → H' S = some (.lst [.int s']) → Q (.int r) H'
/-! ### is_name -/
def signOk (c : Nat) : Bool := decide (97 ≤ c) && decide (c ≤ 122)
def nameOk (z : Str) : Bool := decide (1 ≤ z.length ∧ z.length ≤ 8) && z.cps.toList.all signOk
theorem lt1 (a b : Nat) : ([a] < [b]) ↔ a < b := by
  constructor
  · intro h
    rcases List.cons_lt_cons_iff.mp h with h | ⟨_, h⟩
    · exact h
    · exact absurd h (by simp)
  · intro h
    exact List.cons_lt_cons_iff.mpr (.inl h)
theorem cps_a : ("a" : Str).cps.toList = [97] := by decide +kernel
theorem cps_z : ("z" : Str).cps.toList = [122] := by decide +kernel
def spIsName (K : PySem.W.Frag) : Sp := fun vs H Q _ => ∃ x t b, vs = [x] ∧ TyX K H x t ∧ PySem.W.kitOne K t (.type "str") = some b ∧
  (b = true → ∃ z : Str, x = .str z ∧ z.length ≤ 1000 ∧ ∀ H', Kp [] H H' → Q (.bl (nameOk z)) H') ∧ (b = false → ∀ H', Kp [] H H' → Q (.bl false) H')
section
variable {M : List Addr} {H0 H : Hp} {L T : List (Addr × HO)} {S : Addr} {s n : Int} {Q : VK} {E : XK}
theorem rd_state (A : At M H0 H L T) {c k : Int} (q : ∀ s p H', Sd s → At M H0 H' (L ++ [(p, .lst [.int s])]) T → Q (.ref p) H') : spState [.int c, .int k] H Q E :=
  ⟨c, k, rfl, fun s p H' hs hn hp kp => q s p H' hs (A.add (A.c0 kp) rfl hn hp)⟩
theorem rd_next (A : At M H0 H L T) (i : Nat) (h : L[i]? = some (S, .lst [.int s])) (hs : Sd s) (hn : 0 < n) (q : ∀ s' r H', Sd s' → 0 ≤ r → r < n → At M H0 H' (L.set i (S, .lst [.int s'])) T → Q (.int r) H') : spNext [.ref S, .int n] H Q E :=
  ⟨S, s, n, rfl, A.in h, hs, hn, fun s' r H' a b c k e => q s' r H' a b c (A.c1 i h k e)⟩
theorem rd_name (A : At M H0 H L T) {z : Str} (hz : z.length ≤ 1000) (q : ∀ H', At M H0 H' L T → Q (.bl (nameOk z)) H') : spIsName K [.str z] H Q E :=
  ⟨.str z, .type "str", true, rfl, .base (.str z), kit_ty (by decide +kernel), fun _ => ⟨z, rfl, hz, fun H' k => q H' (A.c0 k)⟩, fun e => by cases e⟩
theorem rd_noname (A : At M H0 H L T) {x : V} {t : String} (ty : TyX K H x (.type t)) (kit : kitB t "str" = some false) (q : ∀ H', At M H0 H' L T → Q (.bl false) H') : spIsName K [x] H Q E :=
  ⟨x, .type t, false, rfl, ty, kit_ty kit, (fun e => by cases e), fun _ H' k => q H' (A.c0 k)⟩
end
theorem dp_strs {K : PySem.W.Frag} {H : Hp} : ∀ zs : List Str, DpAll K H (zs.map V.str) (zs.map PyData.str)
  | [] => .nil
  | z :: zs => .cons (.str z) (dp_strs zs)
theorem depth_strs : ∀ zs : List Str, PyData.depthAll (zs.map PyData.str) = 0
  | [] => rfl
  | z :: zs => by
    show max (PyData.depth (.str z)) (PyData.depthAll (zs.map PyData.str)) = 0
    rw [depth_strs zs]; rfl
theorem lay_strs : ∀ zs : List Str, (∀ z ∈ zs, PyData.strOk z = true) → PyData.canLayAll0 (zs.map PyData.str) = true
  | [], _ => rfl
  | z :: zs, h => by
    show (PyData.canLay0 (.str z) && PyData.canLayAll0 (zs.map PyData.str)) = true
    rw [lay_strs zs (fun y hy => h y (List.mem_cons_of_mem _ hy))]
    show (PyData.strOk z && true) = true
    rw [h z List.mem_cons_self]; rfl
theorem shaped_strs {zs : List Str} (h : ∀ z ∈ zs, PyData.strOk z = true) : SeqAt.shaped (.list (zs.map PyData.str)) = true := by
  unfold SeqAt.shaped
  rw [show PyData.canLay0 (.list (zs.map PyData.str)) = PyData.canLayAll0 (zs.map PyData.str) from rfl, lay_strs zs h]
  rw [show PyData.depth (.list (zs.map PyData.str)) = PyData.depthAll (zs.map PyData.str) + 1 from rfl, depth_strs]
  rfl
/-- the list of one-sign texts -/
def sg (l : List Nat) : List V := l.map fun c => V.str ⟨#[c]⟩
def sgs (l : List Nat) : List Str := l.map fun c => (⟨#[c]⟩ : Str)
theorem sg_sgs (l : List Nat) : sg l = (sgs l).map V.str := by unfold sg sgs; rw [List.map_map]; rfl
theorem sg_len (l : List Nat) : (sg l).length = l.length := by unfold sg; rw [List.length_map]
theorem join_sg : ∀ l : List Nat, TL.joinL [] (l.map fun c => [c]) = l
  | [] => rfl
  | [c] => rfl
  | c :: d :: r => by
    show [c] ++ ([] ++ TL.joinL [] ((d :: r).map fun c => [c])) = c :: d :: r
    rw [join_sg (d :: r)]; rfl
theorem str_nil : ("" : Str) = SX.S [] := by decide +kernel
theorem join_sgs (l : List Nat) : Txt.join "" (sgs l) = SX.S l := by
  have e : sgs l = (l.map fun c => [c]).map SX.S := by unfold sgs; rw [List.map_map]; rfl
  rw [str_nil, e, SX.join_S, join_sg]
theorem eqv_nil (l : List Nat) : PyData.eqv (.list ((sgs l).map PyData.str)) (.list []) = decide (l = []) := by
  cases l with
  | nil => rfl
  | cons c r => rfl
theorem sgs_ok {l : List Nat} (h : ∀ c ∈ l, c < 1000) : ∀ z ∈ sgs l, PyData.strOk z = true := by
  intro z hz
  obtain ⟨c, hc, rfl⟩ := List.mem_map.mp hz
  have := h c hc
  show (#[c] : Array Nat).all (· < 0x110000) = true
  simp
  omega
theorem sgs_size (l : List Nat) : ((sgs l).map (·.length)).sum + (sgs l).length * ("" : Str).length = l.length := by
  unfold sgs
  rw [List.map_map, List.length_map, show ("" : Str).length = 0 by decide +kernel, Nat.mul_zero, Nat.add_zero]
  induction l with
  | nil => rfl
  | cons c r ih => rw [List.map_cons, List.sum_cons, ih, List.length_cons]; show 1 + _ = _; omega
def letters : Str := "abcdefghijklmnopqrstuvwxyz"
def odd : Str := "AZ09 .-_\n\t'{@`"
theorem letters_ok : ∀ c ∈ letters.cps.toList, signOk c = true ∧ c < 1000 := by decide +kernel
theorem odd_ok : ∀ c ∈ odd.cps.toList, signOk c = false ∧ c < 1000 := by decide +kernel
theorem letters_len : letters.cps.toList.length = 26 := by decide +kernel
theorem odd_len : odd.cps.toList.length = 14 := by decide +kernel
theorem nameOk_S (l : List Nat) : nameOk (SX.S l) = (decide (1 ≤ l.length ∧ l.length ≤ 8) && l.all signOk) := by
  unfold nameOk
  rw [SX.S_len]
end
end Nn

namespace Nn
open PySem PySem.Spec PyProof.Rows L2
local macro_rules | `(tactic| walk_at "rd1") => `(tactic| first
  | with_reducible refine' rd_c ?_
  | ((with_reducible refine' rd_var ?h ?_); (case h => rfl))
  | with_reducible refine' rd_op ?_
  | with_reducible refine' rd_I0 ?_
  | with_reducible refine' rd_seq ?_
  | ((with_reducible refine' rd_mod ?h ?_); (case h => decide))
  | ((with_reducible refine' rd_fdiv ?h ?_); (case h => exact ⟨by decide, by decide⟩))
  | ((with_reducible refine' rd_pow ?h ?_); (case h => exact ⟨by decide, by decide, by decide⟩))
  | ((with_reducible refine' rd_mul ?h ?_); (case h => first | exact Or.inl (by decide) | exact Or.inr (by decide)))
  | with_reducible refine' rd_set ?_
  | with_reducible refine' rd_asg ?_
  | with_reducible refine' rd_cons ?_
  | with_reducible refine' rd_nil ?_
  | with_reducible refine' rd_call ?_
  | with_reducible refine' rd_cb ?_
  | with_reducible refine' rd_if ?_
  | with_reducible refine' rd_test ?_
  | with_reducible refine' rd_B ?_
  | with_reducible refine' rd_bl ?_
  | ((with_reducible refine' rd_eq ?h ?_); (case h => rfl))
  | ((with_reducible refine' rd_ne ?h ?_); (case h => rfl))
  | with_reducible refine' rd_not ?_
  | with_reducible refine' rd_and ?_
  | with_reducible refine' rd_or ?_
  | with_reducible refine' rd_notV ?_
  | with_reducible refine' rd_chain ?_
  | with_reducible refine' rd_ret ?_
  | with_reducible refine' rd_drop ?_
  | with_reducible refine' rd_next' ?_
  | with_reducible refine' rd_lst ?_
  | with_reducible refine' rd_tup ?_
  | with_reducible refine' rd_lc ?_
  | with_reducible refine' rd_rng1 ?_
  | with_reducible refine' rd_istr ?_
  | with_reducible refine' rd_ilst ?_
  | with_reducible refine' rd_ienum ?_
  | with_reducible refine' rd_bm0 ?_
  | with_reducible refine' rd_bm ?_
  | with_reducible refine' rd_m1 ?_
  | with_reducible refine' rd_sl ?_
  | with_reducible refine' rd_po0 ?_
  | with_reducible refine' rd_po1 ?_
  | with_reducible refine' rd_in ?_
  | with_reducible refine' rd_sub ?_
  | with_reducible refine' rd_ifE ?_
  | with_reducible refine' rd_un ?_
  | with_reducible refine' rd_U ?_
  | with_reducible refine' rd_brk ?_
  | with_reducible refine' rd_cont ?_
  | with_reducible refine' rd_yes ?_
  | with_reducible refine' rd_T ?_
  | with_reducible refine' rd_F ?_
  | with_reducible refine' rd_nT ?_
  | with_reducible refine' rd_nF ?_
  | with_reducible refine' rd_dni ?_
  | with_reducible refine' rd_di ?_
  | with_reducible refine' rd_dget ?_
  | with_reducible refine' rd_dget1 ?_
  | with_reducible refine' rd_dget2 ?_
  | with_reducible refine' rd_dget2N ?_
  | with_reducible refine' rd_dpop1 ?_
  | with_reducible refine' rd_ddel ?_
  | with_reducible refine' rd_mkN ?_
  | with_reducible refine' rd_mkV ?_
  | with_reducible refine' rd_dput ?_
  | with_reducible refine' rd_dnew ?_
  | with_reducible refine' rd_ikeys ?_
  | with_reducible refine' rd_gn ?_
  | with_reducible refine' rd_for ?_
  | with_reducible refine' rd_make ?_
  | with_reducible refine' rd_meth ?_
  | with_reducible refine' rd_fld ?_
  | with_reducible refine' rd_sfld ?_
  | with_reducible refine' rd_dc ?_
  | with_reducible refine' rd_items ?_
  | with_reducible refine' rd_sadd ?_
  | with_reducible refine' rd_ivals ?_
  | with_reducible refine' rd_callS ?_
  | with_reducible refine' rd_makeS ?_
  | with_reducible refine' rd_methS ?_
  | with_reducible refine' rd_fldH ?_
  | with_reducible refine' rd_mkO ?_)
local macro_rules | `(tactic| walk_at "sub") => `(tactic| repeat' (first | exact List.nil_sublist _ | exact List.Sublist.refl _ | apply List.Sublist.cons₂ | apply List.Sublist.cons))
local macro_rules | `(tactic| walk_at "rd") => `(tactic| repeat walk_at "rd1")

/-! ### the word of an error -/
def ErrCs.at (Cs : ErrCs) : Nat → Addr
  | 0 => Cs.name
  | 1 => Cs.twice
  | 2 => Cs.missing
  | 3 => Cs.held
  | 4 => Cs.letgo
  | 5 => Cs.spare
  | _ => Cs.row
def Flt.ix : Flt → Nat
  | .name => 0
  | .twice _ => 1
  | .missing _ => 2
  | .held _ => 3
  | .letgo _ => 4
  | .spare _ => 5
  | .row _ => 6
def Flt.word : Flt → Str
  | .name => "name"
  | .twice _ => "twice"
  | .missing _ => "missing"
  | .held _ => "held"
  | .letgo _ => "letgo"
  | .spare _ => "spare"
  | .row _ => "row"
def Flt.fld : Flt → PyData
  | .name => .none
  | .twice z => .str z
  | .missing z => .str z
  | .held z => .str z
  | .letgo z => .str z
  | .spare zs => .tuple (zs.map .str)
  | .row n => .int n
def Flt.d (x : Flt) : PyData := .tuple [.str x.word, x.fld]
theorem Flt.at_ix (Cs : ErrCs) (x : Flt) : Cs.at x.ix = x.cls Cs := by cases x <;> rfl
theorem Flt.ix_lt (x : Flt) : x.ix < 7 := by cases x <;> simp [Flt.ix]
/-- what the written part says of the seven classes -/
structure ErrK (K : PySem.W.Frag) (Cs : ErrCs) : Prop where
  exc : ∀ i, i < 7 → ExcC K (Cs.at i)
  kit : ∀ i j, i < 7 → j < 7 → PySem.W.kitOne K (.ref (Cs.at i)) (.ref (Cs.at j)) = some (decide (i = j))
  ve : ∀ i, i < 7 → PySem.W.kitOne K (.ref (Cs.at i)) (.type "ValueError") = some true
  nT : PySem.W.findIn K (.ref Cs.twice) "name" = some none
  nM : PySem.W.findIn K (.ref Cs.missing) "name" = some none
  nH : PySem.W.findIn K (.ref Cs.held) "name" = some none
  nL : PySem.W.findIn K (.ref Cs.letgo) "name" = some none
  nS : PySem.W.findIn K (.ref Cs.spare) "ring" = some none
  nR : PySem.W.findIn K (.ref Cs.row) "row" = some none
/-- the clause that catches them all -/
structure ErrN (K : PySem.W.Frag) (mg : Str → Option Value) (Cs : ErrCs) (CN : Addr) : Prop where
  ex : ∀ i, i < 7 → PySem.W.exmOne K (.ref (Cs.at i)) (.ref CN) = some true
  g : mg "NewError" = some (.ref CN)
theorem ErrN.of {K : PySem.W.Frag} {mg : Str → Option Value} {Cs : ErrCs} {CN : Addr} (h : ErrN K mg Cs CN) (x : Flt) : PySem.W.exmOne K (.ref (x.cls Cs)) (.ref CN) = some true := by rw [← x.at_ix]; exact h.ex _ x.ix_lt
theorem ErrAt.kp {H H' : Hp} {a C : Addr} {d : Option Addr} {fs : List (Str × V)} (h : ErrAt H a C d fs) (k : Kp [] H H') : ErrAt H' a C d fs := by
  cases h with
  | bare h => exact .bare (k _ _ h (by simp))
  | own h hd => exact .own (k _ _ h (by simp)) (k _ _ hd (by simp))
theorem fldIs.kp {H H' : Hp} {x : Flt} {fs : List (Str × V)} (h : fldIs H x fs) (k : Kp [] H H') : fldIs H' x fs := by
  cases x with
  | spare zs =>
    obtain ⟨t, e, ht⟩ := h
    exact ⟨t, e, k _ _ ht (by simp)⟩
  | _ => exact h
theorem ErrIs.kp {Cs : ErrCs} {H H' : Hp} {a : Addr} {x : Flt} (h : ErrIs Cs H a x) (k : Kp [] H H') : ErrIs Cs H' a x := by
  obtain ⟨d, fs, h1, h2, h3⟩ := h
  exact ⟨d, fs, h1.kp k, h2.kp k, h3⟩
section
variable {P : Program} {w : World} {K : PySem.W.Frag} {mg : Str → Option Value} {base : Heap}
theorem nes_ (a b : Str) (h : decide (a = b) = false) {A B : Prop} (k : B) : if decide (V.str a = V.str b) = true then A else B := by
  rw [decide_eq_false fun e => of_decide_eq_false h (V.str.inj e), if_neg Bool.false_ne_true]
  exact k
theorem yes_ (a : Str) {A B : Prop} (k : A) : if decide (V.str a = V.str a) = true then A else B := by
  rw [decide_eq_true rfl, if_pos rfl]
  exact k
theorem rd_isH {Cs : ErrCs} (Y : ErrK K Cs) {H : Hp} {a : Addr} {x : Flt} {Q : VK} (h : ErrIs Cs H a x) (j : Nat) (hj : j < 7) (q : Q (.bl (decide (x.ix = j))) H) : rIsH K [.ref a, .ref (Cs.at j)] H Q := by
  obtain ⟨d, fs, h1, _⟩ := h
  rw [← x.at_ix] at h1
  exact ⟨a, _, d, fs, .ref (Cs.at j), .ref (Cs.at j), _, rfl, .own _, h1, Y.exc _ x.ix_lt, Y.kit _ _ x.ix_lt hj, q⟩
theorem rd_isHV {Cs : ErrCs} (Y : ErrK K Cs) {H : Hp} {a : Addr} {x : Flt} {Q : VK} (h : ErrIs Cs H a x) (q : Q (.bl true) H) : rIsH K [.ref a, .ty "ValueError"] H Q := by
  obtain ⟨d, fs, h1, _⟩ := h
  rw [← x.at_ix] at h1
  exact ⟨a, _, d, fs, .ty "ValueError", .type "ValueError", _, rfl, .ty _, h1, Y.exc _ x.ix_lt, Y.ve _ x.ix_lt, q⟩
def spWordOf (K : PySem.W.Frag) (Cs : ErrCs) : Sp := fun vs H Q _ => ∃ (a : Addr) (x : Flt), vs = [.ref a] ∧ ErrIs Cs H a x ∧
  ∀ H' p v, Kp [] H H' → H p = none → H' p = some (.tup [.str x.word, v]) → (∀ G, Kp [] H' G → Dp K G v x.fld) → Q (.ref p) H'
structure GWord (mg : Str → Option Value) (Cs : ErrCs) : Prop where
  NoName : mg "NoName" = some (.ref Cs.name)
  Twice : mg "Twice" = some (.ref Cs.twice)
  Missing : mg "Missing" = some (.ref Cs.missing)
  Held : mg "Held" = some (.ref Cs.held)
  LetGo : mg "LetGo" = some (.ref Cs.letgo)
  NoSpare : mg "NoSpare" = some (.ref Cs.spare)
  NoRow : mg "NoRow" = some (.ref Cs.row)
/-- a refusal out of a try whose error is kept -/
theorem thrown_keep {Cs : ErrCs} {c : Value} {i j : Nat} {D : Ends} {σ : L2.St} {N : List Addr} {H : Hp} {x : Flt} (hm : PySem.W.exmOne K (.ref (x.cls Cs)) c = some true) (hi : i < σ.length)
    (k : ∀ a H', Kp N H H' → ErrIs Cs H' a x → D.nx (((σ.set i (some (.ref a))).set j (some (.ref a))).set i none) H') : Thrown Cs N H (WE (wKeep K c i (fun _ _ _ => tAsg (tVar i) (gName j)) D) σ) x := by
  have hs : ∀ a : Addr, (σ.set i (some (V.ref a)))[i]? = some (some (.ref a)) := fun a => List.getElem?_set_self hi
  have kk : ∀ {H1 : Hp} {a : Addr} {o : HO}, Kp N H H1 → H1 a = none → Kp N H (upd H1 a o) := fun k1 ha b o hb hn => by
    rw [upd_ne (ne_of_none (k1 b o hb hn) ha)]; exact k1 b o hb hn
  have k0 : ∀ {H1 : Hp} {a : Addr} {o : HO}, H1 a = none → Kp [] H1 (upd H1 a o) := fun ha b o hb _ => by
    rw [upd_ne (ne_of_none hb ha)]; exact hb
  cases x with
  | name => exact fun H1 k1 => ⟨hm, fun a ha => ⟨_, hs a, fun ha' => k a _ (kk k1 ha') ⟨none, [], .bare upd_same, rfl, fun h => absurd rfl h⟩⟩⟩
  | _ =>
    exact fun d fs H1 hd k1 h1 hf => ⟨hm, fun a ha => ⟨_, hs a, fun ha' => k a _ (kk k1 ha') ⟨some d, fs, .own upd_same (by rw [upd_ne (ne_of_none h1 ha')]; exact h1), hf.kp (k0 ha'), fun _ => by simp⟩⟩⟩
end
end Nn

namespace Nn
open PySem PySem.Spec PyProof.Rows L2
local macro_rules | `(tactic| walk_at "rd1") => `(tactic| first
  | with_reducible refine' rd_c ?_
  | ((with_reducible refine' rd_var ?h ?_); (case h => rfl))
  | with_reducible refine' rd_op ?_
  | with_reducible refine' rd_I0 ?_
  | with_reducible refine' rd_seq ?_
  | ((with_reducible refine' rd_mod ?h ?_); (case h => decide))
  | ((with_reducible refine' rd_fdiv ?h ?_); (case h => exact ⟨by decide, by decide⟩))
  | ((with_reducible refine' rd_pow ?h ?_); (case h => exact ⟨by decide, by decide, by decide⟩))
  | ((with_reducible refine' rd_mul ?h ?_); (case h => first | exact Or.inl (by decide) | exact Or.inr (by decide)))
  | with_reducible refine' rd_set ?_
  | with_reducible refine' rd_asg ?_
  | with_reducible refine' rd_cons ?_
  | with_reducible refine' rd_nil ?_
  | with_reducible refine' rd_call ?_
  | with_reducible refine' rd_cb ?_
  | with_reducible refine' rd_if ?_
  | with_reducible refine' rd_test ?_
  | with_reducible refine' rd_B ?_
  | with_reducible refine' rd_bl ?_
  | ((with_reducible refine' rd_eq ?h ?_); (case h => rfl))
  | ((with_reducible refine' rd_ne ?h ?_); (case h => rfl))
  | with_reducible refine' rd_not ?_
  | with_reducible refine' rd_and ?_
  | with_reducible refine' rd_or ?_
  | with_reducible refine' rd_notV ?_
  | with_reducible refine' rd_chain ?_
  | with_reducible refine' rd_ret ?_
  | with_reducible refine' rd_drop ?_
  | with_reducible refine' rd_next' ?_
  | with_reducible refine' rd_lst ?_
  | with_reducible refine' rd_tup ?_
  | with_reducible refine' rd_lc ?_
  | with_reducible refine' rd_rng1 ?_
  | with_reducible refine' rd_istr ?_
  | with_reducible refine' rd_ilst ?_
  | with_reducible refine' rd_ienum ?_
  | with_reducible refine' rd_bm0 ?_
  | with_reducible refine' rd_bm ?_
  | with_reducible refine' rd_m1 ?_
  | with_reducible refine' rd_sl ?_
  | with_reducible refine' rd_po0 ?_
  | with_reducible refine' rd_po1 ?_
  | with_reducible refine' rd_in ?_
  | with_reducible refine' rd_sub ?_
  | with_reducible refine' rd_ifE ?_
  | with_reducible refine' rd_un ?_
  | with_reducible refine' rd_U ?_
  | with_reducible refine' rd_brk ?_
  | with_reducible refine' rd_cont ?_
  | with_reducible refine' rd_yes ?_
  | with_reducible refine' rd_T ?_
  | with_reducible refine' rd_F ?_
  | with_reducible refine' rd_nT ?_
  | with_reducible refine' rd_nF ?_
  | with_reducible refine' rd_dni ?_
  | with_reducible refine' rd_di ?_
  | with_reducible refine' rd_dget ?_
  | with_reducible refine' rd_dget1 ?_
  | with_reducible refine' rd_dget2 ?_
  | with_reducible refine' rd_dget2N ?_
  | with_reducible refine' rd_dpop1 ?_
  | with_reducible refine' rd_ddel ?_
  | with_reducible refine' rd_mkN ?_
  | with_reducible refine' rd_mkV ?_
  | with_reducible refine' rd_dput ?_
  | with_reducible refine' rd_dnew ?_
  | with_reducible refine' rd_ikeys ?_
  | with_reducible refine' rd_gn ?_
  | with_reducible refine' rd_for ?_
  | with_reducible refine' rd_make ?_
  | with_reducible refine' rd_meth ?_
  | with_reducible refine' rd_fld ?_
  | with_reducible refine' rd_sfld ?_
  | with_reducible refine' rd_dc ?_
  | with_reducible refine' rd_items ?_
  | with_reducible refine' rd_sadd ?_
  | with_reducible refine' rd_ivals ?_
  | with_reducible refine' rd_callS ?_
  | with_reducible refine' rd_makeS ?_
  | with_reducible refine' rd_methS ?_
  | with_reducible refine' rd_fldH ?_
  | with_reducible refine' rd_mkO ?_)
local macro_rules | `(tactic| walk_at "sub") => `(tactic| repeat' (first | exact List.nil_sublist _ | exact List.Sublist.refl _ | apply List.Sublist.cons₂ | apply List.Sublist.cons))
local macro_rules | `(tactic| walk_at "rd") => `(tactic| repeat walk_at "rd1")

/-! ### fourteen unlike names -/
structure Pool (ps : List Str) : Prop where
  len : ps.length = 14
  nd : ps.Nodup
  ok : ∀ z ∈ ps, nameOk z = true
theorem nameOk_len {z : Str} (h : nameOk z = true) : 1 ≤ z.length ∧ z.length ≤ 8 := by
  unfold nameOk at h
  rw [Bool.and_eq_true] at h
  exact of_decide_eq_true h.1
theorem nameOk_sign {z : Str} (h : nameOk z = true) : ∀ c ∈ z.cps.toList, signOk c = true := by
  unfold nameOk at h
  rw [Bool.and_eq_true] at h
  exact fun c hc => List.all_eq_true.mp h.2 c hc
theorem signOk_lt {c : Nat} (h : signOk c = true) : 97 ≤ c ∧ c ≤ 122 := by
  unfold signOk at h
  rw [Bool.and_eq_true] at h
  exact ⟨of_decide_eq_true h.1, of_decide_eq_true h.2⟩
theorem nameOk_ok {z : Str} (h : nameOk z = true) : PyData.strOk z = true := by
  unfold PyData.strOk
  rw [← Array.all_toList]
  exact List.all_eq_true.mpr fun c hc => decide_eq_true (by have := (signOk_lt (nameOk_sign h c hc)).2; omega)
theorem nodup_mapr {α : Type} {f : Nat → α} {n : Nat} (h : ∀ i j, i < j → j < n → f i ≠ f j) : ((List.range n).map f).Nodup := by
  rw [List.Nodup, List.pairwise_map]
  exact (List.pairwise_lt_range (n := n)).imp_of_mem fun {a b} ha hb hab => h a b hab (List.mem_range.mp hb)
def lt (i : Int) : Nat := 97 + i.toNat
theorem letters_at {i : Int} (h0 : 0 ≤ i) (h : i < 26) : atI letters.cps.toList i = some (lt i) := by
  have key : ∀ j : Fin 26, letters.cps.toList[j.val]? = some (97 + j.val) := by decide +kernel
  obtain ⟨j, rfl⟩ := Int.eq_ofNat_of_zero_le h0
  exact atI_nat (key ⟨j, by omega⟩)
theorem lt_ok {i : Int} (h0 : 0 ≤ i) (h : i < 26) : signOk (lt i) = true := by
  unfold signOk lt
  rw [Bool.and_eq_true]
  exact ⟨decide_eq_true (by omega), decide_eq_true (by omega)⟩
def nmA (b : List Nat) (step : Int) (k : Nat) : List Nat := lt ((step + 5 * (k : Int)) % 26) :: b.take (((k : Int) + step) % 4).toNat
def nmB (b : List Nat) (step spot : Int) (k : Nat) : List Nat := b.take spot.toNat ++ [lt ((step + 7 * (k : Int)) % 26)] ++ b.drop spot.toNat
theorem pool_A {b : List Nat} {step : Int} (hb : ∀ c ∈ b, signOk c = true) (hl : b.length ≤ 7) : Pool ((List.range 14).map fun k => SX.S (nmA b step k)) := by
  refine ⟨by rw [List.length_map, List.length_range], nodup_mapr fun i j hij hj e => ?_, ?_⟩
  · have e := SX.S_inj e
    unfold nmA lt at e
    have := (List.cons.inj e).1
    omega
  · intro z hz
    obtain ⟨k, _, rfl⟩ := List.mem_map.mp hz
    rw [nameOk_S]
    unfold nmA
    have := List.length_take_le (((k : Int) + step) % 4).toNat b
    rw [Bool.and_eq_true]
    refine ⟨decide_eq_true ?_, ?_⟩
    · rw [List.length_cons, List.length_take]; omega
    · rw [List.all_cons, lt_ok (Int.emod_nonneg _ (by decide)) (Int.emod_lt_of_pos _ (by decide)), Bool.true_and]
      exact List.all_eq_true.mpr fun c hc => hb c (List.mem_of_mem_take hc)
theorem pool_B {b : List Nat} {step spot : Int} (hb : ∀ c ∈ b, signOk c = true) (hl : b.length ≤ 7) : Pool ((List.range 14).map fun k => SX.S (nmB b step spot k)) := by
  refine ⟨by rw [List.length_map, List.length_range], nodup_mapr fun i j hij hj e => ?_, ?_⟩
  · have e := SX.S_inj e
    unfold nmB at e
    rw [List.append_assoc, List.append_assoc] at e
    have e1 := List.append_cancel_left e
    have := (List.cons.inj e1).1
    unfold lt at this
    omega
  · intro z hz
    obtain ⟨k, _, rfl⟩ := List.mem_map.mp hz
    rw [nameOk_S]
    unfold nmB
    rw [Bool.and_eq_true]
    refine ⟨decide_eq_true ?_, ?_⟩
    · rw [List.length_append, List.length_append, List.length_take, List.length_drop]; show 1 ≤ _ + 1 + _ ∧ _ + 1 + _ ≤ 8; omega
    · rw [List.all_append, List.all_append]
      have h1 : (b.take spot.toNat).all signOk = true := List.all_eq_true.mpr fun c hc => hb c (List.mem_of_mem_take hc)
      have h2 : (b.drop spot.toNat).all signOk = true := List.all_eq_true.mpr fun c hc => hb c (List.mem_of_mem_drop hc)
      rw [h1, h2, List.all_cons, lt_ok (Int.emod_nonneg _ (by decide)) (Int.emod_lt_of_pos _ (by decide))]; rfl
section
variable {P : Program} {w : World} {K : PySem.W.Frag} {mg : Str → Option Value} {base : Heap}
structure C1 (P : Program) (w : World) (K : PySem.W.Frag) (mg : Str → Option Value) (base : Heap) : Prop where
  _law_next : Cl P w K mg base 1 "_law_next" spNext
def spPool : Sp := fun vs H Q _ => ∃ (S : Addr) (s : Int), vs = [.ref S] ∧ H S = some (.lst [.int s]) ∧ Sd s ∧
  ∀ s' p ps H', Sd s' → Pool ps → H p = none → H' p = some (.lst (ps.map V.str)) → Kp [S] H H' → H' S = some (.lst [.int s']) → Q (.ref p) H'
end
end Nn

namespace Nn
open PySem PySem.Spec PyProof.Rows L2
theorem strOk_tl {z : Str} (h : ∀ c ∈ TL.tl z, c < 0x110000) : PyData.strOk z = true := by
  unfold PyData.strOk
  rw [← Array.all_toList]
  exact List.all_eq_true.mpr fun c hc => decide_eq_true (h c hc)
/-- a text that is short -/
def Short (z : Str) : Prop := z.length ≤ 1000 ∧ PyData.strOk z = true
theorem short_cps {z : Str} (h : Short z) : ∀ c ∈ z.cps.toList, c < 16 ^ 8 := by
  have := h.2
  unfold PyData.strOk at this
  rw [← Array.all_toList] at this
  intro c hc
  have := of_decide_eq_true (List.all_eq_true.mp this c hc)
  omega
theorem short_name {z : Str} (h : nameOk z = true) : Short z := ⟨by have := nameOk_len h; omega, nameOk_ok h⟩
theorem short_repr {z : Str} (h : Short z) : (reprText z).length ≤ 10002 := by
  have := PySem.StrLaws.reprText_len z (short_cps h)
  have := h.1
  omega
def ShP (e : Str × Option Str) : Prop := Short e.1 ∧ ∀ z, e.2 = some z → Short z
end Nn

namespace Nn
open PySem PySem.Spec PyProof.Rows L2
local macro_rules | `(tactic| walk_at "rd1") => `(tactic| first
  | with_reducible refine' rd_c ?_
  | ((with_reducible refine' rd_var ?h ?_); (case h => rfl))
  | with_reducible refine' rd_op ?_
  | with_reducible refine' rd_I0 ?_
  | with_reducible refine' rd_seq ?_
  | ((with_reducible refine' rd_mod ?h ?_); (case h => decide))
  | ((with_reducible refine' rd_fdiv ?h ?_); (case h => exact ⟨by decide, by decide⟩))
  | ((with_reducible refine' rd_pow ?h ?_); (case h => exact ⟨by decide, by decide, by decide⟩))
  | ((with_reducible refine' rd_mul ?h ?_); (case h => first | exact Or.inl (by decide) | exact Or.inr (by decide)))
  | with_reducible refine' rd_set ?_
  | with_reducible refine' rd_asg ?_
  | with_reducible refine' rd_cons ?_
  | with_reducible refine' rd_nil ?_
  | with_reducible refine' rd_call ?_
  | with_reducible refine' rd_cb ?_
  | with_reducible refine' rd_if ?_
  | with_reducible refine' rd_test ?_
  | with_reducible refine' rd_B ?_
  | with_reducible refine' rd_bl ?_
  | ((with_reducible refine' rd_eq ?h ?_); (case h => rfl))
  | ((with_reducible refine' rd_ne ?h ?_); (case h => rfl))
  | with_reducible refine' rd_not ?_
  | with_reducible refine' rd_and ?_
  | with_reducible refine' rd_or ?_
  | with_reducible refine' rd_notV ?_
  | with_reducible refine' rd_chain ?_
  | with_reducible refine' rd_ret ?_
  | with_reducible refine' rd_drop ?_
  | with_reducible refine' rd_next' ?_
  | with_reducible refine' rd_lst ?_
  | with_reducible refine' rd_tup ?_
  | with_reducible refine' rd_lc ?_
  | with_reducible refine' rd_rng1 ?_
  | with_reducible refine' rd_istr ?_
  | with_reducible refine' rd_ilst ?_
  | with_reducible refine' rd_ienum ?_
  | with_reducible refine' rd_bm0 ?_
  | with_reducible refine' rd_bm ?_
  | with_reducible refine' rd_m1 ?_
  | with_reducible refine' rd_sl ?_
  | with_reducible refine' rd_po0 ?_
  | with_reducible refine' rd_po1 ?_
  | with_reducible refine' rd_in ?_
  | with_reducible refine' rd_sub ?_
  | with_reducible refine' rd_ifE ?_
  | with_reducible refine' rd_un ?_
  | with_reducible refine' rd_U ?_
  | with_reducible refine' rd_brk ?_
  | with_reducible refine' rd_cont ?_
  | with_reducible refine' rd_yes ?_
  | with_reducible refine' rd_T ?_
  | with_reducible refine' rd_F ?_
  | with_reducible refine' rd_nT ?_
  | with_reducible refine' rd_nF ?_
  | with_reducible refine' rd_dni ?_
  | with_reducible refine' rd_di ?_
  | with_reducible refine' rd_dget ?_
  | with_reducible refine' rd_dget1 ?_
  | with_reducible refine' rd_dget2 ?_
  | with_reducible refine' rd_dget2N ?_
  | with_reducible refine' rd_dpop1 ?_
  | with_reducible refine' rd_ddel ?_
  | with_reducible refine' rd_mkN ?_
  | with_reducible refine' rd_mkV ?_
  | with_reducible refine' rd_dput ?_
  | with_reducible refine' rd_dnew ?_
  | with_reducible refine' rd_ikeys ?_
  | with_reducible refine' rd_gn ?_
  | with_reducible refine' rd_for ?_
  | with_reducible refine' rd_make ?_
  | with_reducible refine' rd_meth ?_
  | with_reducible refine' rd_fld ?_
  | with_reducible refine' rd_sfld ?_
  | with_reducible refine' rd_dc ?_
  | with_reducible refine' rd_items ?_
  | with_reducible refine' rd_sadd ?_
  | with_reducible refine' rd_ivals ?_
  | with_reducible refine' rd_callS ?_
  | with_reducible refine' rd_makeS ?_
  | with_reducible refine' rd_methS ?_
  | with_reducible refine' rd_fldH ?_
  | with_reducible refine' rd_mkO ?_)
local macro_rules | `(tactic| walk_at "sub") => `(tactic| repeat' (first | exact List.nil_sublist _ | exact List.Sublist.refl _ | apply List.Sublist.cons₂ | apply List.Sublist.cons))
local macro_rules | `(tactic| walk_at "rd") => `(tactic| repeat walk_at "rd1")

section
variable {M : List Addr} {H0 H H' : Hp} {L T : List (Addr × HO)} {p q : Addr} {o u o' u' : HO}
/-- a callee changed the objects at two places -/
theorem At.c2s (A : At M H0 H L T) (i j : Nat) (hi : L[i]? = some (p, o)) (hj : L[j]? = some (q, u)) (hij : i ≠ j) (k : Kp [p, q] H H') (hp : H' p = some o') (hq : H' q = some u') : At M H0 H' ((L.set i (p, o')).set j (q, u')) T := by
  have A' := (A.set i hi o').set j (by rw [List.getElem?_set_ne hij]; exact hj) u'
  refine A'.c0 fun a x ha _ => ?_
  by_cases h1 : a = q
  · subst h1; rw [upd_same] at ha; rw [hq, ← ha]
  · rw [upd_ne h1] at ha
    by_cases h2 : a = p
    · subst h2; rw [upd_same] at ha; rw [hp, ← ha]
    · rw [upd_ne h2] at ha
      exact k a x ha (by simp [h1, h2])
end
/-! ### what is drawn from -/
def stK (gl cl : Addr) (r t : Int) : List (Key × V) := [(.inr "great", .ref gl), (.inr "cells", .ref cl), (.inr "rest", .int r), (.inr "turn", .int t)]
section
variable {gl cl : Addr} {r t r' t' : Int}
theorem st_great : valV (stK gl cl r t) (.inr "great") = some (.ref gl) := by rfl
theorem st_cells : valV (stK gl cl r t) (.inr "cells") = some (.ref cl) := by rfl
theorem st_rest : valV (stK gl cl r t) (.inr "rest") = some (.int r) := by rfl
theorem st_turn : valV (stK gl cl r t) (.inr "turn") = some (.int t) := by rfl
theorem st_putR : putK (stK gl cl r t) (.inr "rest") (.int r') = stK gl cl r' t := by rfl
theorem st_putT : putK (stK gl cl r t) (.inr "turn") (.int t') = stK gl cl r t' := by rfl
theorem st_len : (stK gl cl r t).length < sizeLine := by show 4 < sizeLine; decide
end
structure StIn (H : Hp) (d gl cl : Addr) (r t : Int) (gs cs : List Int) : Prop where
  hd : H d = some (.dK (stK gl cl r t))
  hg : H gl = some (.lst (gs.map V.int))
  hc : H cl = some (.lst (cs.map V.int))
  ne : gl ≠ cl
  len : gs.length ≤ 63
  t0 : 0 ≤ t
structure StOut (H H' : Hp) (d gl cl : Addr) (r t : Int) (gs : List Int) : Prop where
  hd : H' d = some (.dK (stK gl cl r t))
  hg : H' gl = some (.lst (gs.map V.int))
  len : gs.length ≤ 63
  t0 : 0 ≤ t
  k : Kp [d, gl] H H'
section
variable {M : List Addr} {H0 H H' : Hp} {L T : List (Addr × HO)} {d gl cl : Addr} {r t r' t' : Int} {gs gs' cs : List Int} {o u : HO}
theorem StIn.dg (S : StIn H d gl cl r t gs cs) : d ≠ gl := fun e => by
  have h1 := S.hd
  rw [e, S.hg] at h1
  cases h1
theorem StIn.dc (S : StIn H d gl cl r t gs cs) : d ≠ cl := fun e => by
  have h1 := S.hd
  rw [e, S.hc] at h1
  cases h1
theorem StIn.at (S : StIn H d gl cl r t gs cs) : At [d, gl] H H [(d, .dK (stK gl cl r t)), (gl, .lst (gs.map V.int))] [] := At.two S.hd S.hg S.dg
theorem StIn.cells (S : StIn H d gl cl r t gs cs) (A : At [d, gl] H H' L T) : H' cl = some (.lst (cs.map V.int)) := A.base _ _ S.hc (by
  rw [List.mem_cons, List.mem_singleton]
  exact fun h => h.elim (fun h => S.dc h.symm) fun h => S.ne h.symm)
theorem StOut.at (S : StOut H H' d gl cl r' t' gs') (A : At M H0 H L T) (i j : Nat) (hi : L[i]? = some (d, o)) (hj : L[j]? = some (gl, u)) (hij : i ≠ j) : At M H0 H' ((L.set i (d, .dK (stK gl cl r' t'))).set j (gl, .lst (gs'.map V.int))) T :=
  A.c2s i j hi hj hij S.k S.hd S.hg
end
section
variable {P : Program} {w : World} {K : PySem.W.Frag} {mg : Str → Option Value} {base : Heap}
def spBegun (K : PySem.W.Frag) : Sp := fun vs H Q _ => ∃ (a : Addr) (ns : List Int), vs = [.ref a] ∧ SqL K H a (ns.map V.int) ∧ ns.length ≤ 63 ∧ ∀ H' d gl cl gs, H d = none → H gl = none → H cl = none → StIn H' d gl cl 0 0 gs ns → Kp [] H H' → Q (.ref d) H'
theorem ok__law_begun {f : Addr} {fd : FuncData} (F : Fun K "_law_begun" "_law_begun" s_law_begun f fd) (B : Blt mg) : FnOk P w K mg base CX0 1 f fd P_law_begun (spBegun K) := by
  refine F.ok sc_law_begun (fun vs H Q E h => by obtain ⟨a, ns, rfl, _⟩ := h; rfl) (fun cdv A outer s0 H vs Q E hr h => ?_)
  obtain ⟨a, ns, rfl, hS, hlen, q⟩ := h
  refine ⟨_, pss_cons (ps_setLc (i := 1) (own := [("_law_cell", 2)]) rfl sc_law_begun.nd rfl rfl (sw_true rfl rfl rfl (by decide +kernel)) (pi_list (pv 0)) (blkOk_by (N := N_law_begun) (sc := defScope s_law_begun) (by decide +kernel)) (fun _ _ _ _ _ => (pg_name (i := 2) sc_law_begun.nd rfl (Or.inl rfl))) (fun _ _ _ _ _ => pts_one (pt_cmpR op_ge (pv 2) (pe_op op_pow pe_int pe_int) (nomark _))) (fun _ _ _ _ _ => (pe_op op_sub (pv 2) (pe_op op_pow pe_int pe_int))))
  (pss_one (ps_ret (pe_disp (pps_cons pe_str (pv 1) (pps_cons pe_str (pe_callTy call_list_of (by rfl) B.list (by decide +kernel) (pa_cons (pv 0) pa_nil)) (pps_cons pe_str pe_int (pps_cons pe_str pe_int pps_nil)))) (by rfl) (by rfl) (fun z => by cases z) (by decide)))), ?_⟩
  dsimp only [cxOf, Cx.nox]
  have A := At.nil H
  walk_at "rd"
  refine ⟨a, rfl, ⟨_, hS⟩, fun D hD => ?_⟩
  refine lc_it (walk_list (xs := ns.map V.int)) (fun i H' => ∃ gs : List Int, gs.length ≤ i ∧ At [] H H' [(D, .lst (gs.map V.int))] []) ⟨[], Nat.zero_le _, A.snoc hD _⟩ (fun i H' _ ⟨_, _, A5⟩ => A5.sq hS (by simp)) ?_ ?_
  · rintro i x H5 H5' hi ⟨gs, hgs, A5⟩ ⟨rfl, hx⟩
    have hi' : i < ns.length := by rw [List.length_map] at hi; exact hi
    obtain ⟨c, rfl⟩ : ∃ c, x = V.int c := by
      rw [List.getElem?_map] at hx
      obtain ⟨c, _, e⟩ := Option.map_eq_some_iff.mp hx
      exact ⟨c, e.symm⟩
    refine ⟨rfl, ?_⟩
    walk_at "rd"
    refine rd_iteB (fun _ => ?_) (fun _ => ?_)
    · walk_at "rd"
      have A6 := A5.set 0 rfl (.lst (gs.map V.int ++ [.int (c - 10 ^ (18 : Int).toNat)]))
      refine ⟨_, A5.get 0 rfl, by rw [List.length_map]; exact szn' (by omega), gs ++ [c - 10 ^ (18 : Int).toNat], by rw [List.length_append, List.length_singleton]; omega, ?_⟩
      rw [List.map_append]
      exact A6
    · exact ⟨gs, by omega, A5⟩
  rintro H5 ⟨gs, hgs, A5⟩
  rw [List.length_map] at hgs
  walk_at "rd"
  intro p hp
  have A6 := A5.snoc hp (.dK [])
  revert A6
  generalize upd H5 p (.dK []) = H6
  intro A6
  show tC (.str "great") _ H6 _
  walk_at "rd"
  show tC (.str "cells") _ H6 _
  walk_at "rd"
  refine ⟨a, _, rfl, .inl (A6.sq hS (by simp)), fun l hl => ?_⟩
  have A7 := A6.snoc hl (.lst (ns.map V.int))
  revert A7
  generalize upd H6 l (.lst (ns.map V.int)) = H7
  intro A7
  show H7 p = some (.dK []) ∧ ∃ kvs : List (Key × V), _ ∧ _ ∧ _
  refine ⟨A7.get 1 rfl, stK D l 0 0, rfl, Nat.le_of_ble_eq_true rfl, ?_⟩
  have em : mergeK [] (stK D l 0 0) = stK D l 0 0 := by rfl
  rw [em]
  have A8 := A7.set 1 rfl (.dK (stK D l 0 0))
  refine q _ p D l gs (A8.new0 1 rfl (by simp)) (A8.new0 0 rfl (by simp)) (A8.new0 2 rfl (by simp)) ⟨A8.get 1 rfl, A8.get 0 rfl, A8.get 2 rfl, A8.ne 0 2 rfl rfl (by decide), by omega, by decide⟩ A8.keep
/-! ### one more long number -/
def spMixed : Sp := fun vs H Q _ => ∃ (d gl cl : Addr) (r t : Int) (gs cs : List Int), vs = [.ref d] ∧ StIn H d gl cl r t gs cs ∧ t ≤ 1000000 ∧ ∀ k H', StOut H H' d gl cl r (t + 1) gs → Q (.int k) H'
theorem ok__law_mixed {f : Addr} {fd : FuncData} (F : Fun K "_law_mixed" "_law_mixed" s_law_mixed f fd) (B : Blt mg) : FnOk P w K mg base CX0 1 f fd P_law_mixed spMixed := by
  refine F.ok sc_law_mixed (fun vs H Q E h => by obtain ⟨d, gl, cl, r, t, gs, cs, rfl, _⟩ := h; rfl) (fun cdv A outer s0 H vs Q E hr h => ?_)
  obtain ⟨d, gl, cl, r, t, gs, cs, rfl, S, ht, q⟩ := h
  refine ⟨_, pss_cons (ps_dput (hu_of hr) (pv 0) pe_str (pe_op op_add (pe_dget (hu_of hr) (pv 0) pe_str (fun _ _ => rfl)) pe_int) rfl)
  (pss_cons (ps_set (i := 1) sc_law_mixed.nd rfl (Or.inl rfl) pe_int)
  (pss_cons (ps_for PassesOwn.never rfl (pi_list (pe_lst (pa_cons pe_int (pa_cons pe_int (pa_cons pe_int (pa_cons pe_int pa_nil)))))) (pg_name (i := 2) sc_law_mixed.nd rfl (Or.inl rfl))
   (pss_cons (ps_set (i := 3) sc_law_mixed.nd rfl (Or.inl rfl) (pe_op op_add (pe_op op_mul pe_int (pe_dget (hu_of hr) (pv 0) pe_str (fun _ _ => rfl))) (pe_op op_fdiv (pv 2) pe_int)))
  (pss_cons (ps_for PassesOwn.never rfl (pi_list (pe_dget (hu_of hr) (pv 0) pe_str (fun _ _ => rfl))) (pg_name (i := 4) sc_law_mixed.nd rfl (Or.inl rfl))
   (pss_one (ps_set (i := 3) sc_law_mixed.nd rfl (Or.inl rfl) (pe_op op_mod (pe_op op_add (pe_op op_mul (pv 3) pe_int) (pv 4)) (pv 2)))))
  (pss_one (ps_set (i := 1) sc_law_mixed.nd rfl (Or.inl rfl) (pe_op op_add (pe_op op_mul (pv 1) pe_int) (pe_op op_mod (pe_op op_pow (pv 3) pe_int) (pv 2))))))))
  (pss_one (ps_ret (pv 1))))), ?_⟩
  dsimp only [cxOf, Cx.nox]
  have A := S.at
  have t0 := S.t0
  walk_at "rd"
  refine ⟨d, .int t, rfl, by rw [← st_turn (gl := gl) (cl := cl) (r := r)]; exact DGet.k (k := Sum.inr "turn") (A.get 0 rfl), ?_⟩
  walk_at "rd"
  refine ⟨d, _, rfl, DPut.k (k := Sum.inr "turn") (A.get 0 rfl) st_len, ?_⟩
  rw [st_putT]
  refine A.s1 0 rfl fun H1 A1 => ?_
  clear A
  walk_at "rd"
  refine ⟨szl rfl, fun pp hpp => ?_⟩
  have A2 := A1.snoc hpp (.lst [.int 2147483629, .int 2147483587, .int 2147483579, .int 2147483563])
  revert A2
  generalize upd H1 pp (.lst [.int 2147483629, .int 2147483587, .int 2147483579, .int 2147483563]) = H2
  intro A2
  have A2 : At [d, gl] H H2 [(d, .dK (stK gl cl r (t + 1))), (gl, .lst (gs.map V.int)), (pp, .lst (([2147483629, 2147483587, 2147483579, 2147483563] : List Int).map V.int))] [] := A2
  refine ⟨pp, rfl, ⟨_, A2.lst 2 rfl⟩, ?_⟩
  refine forI (walk_list (xs := ([2147483629, 2147483587, 2147483579, 2147483563] : List Int).map V.int)) (fun i σ H' => ∃ (fo : Int) (y2 y3 y4 : Option V), σ = [some (.ref d), some (.int fo), y2, y3, y4] ∧
      At [d, gl] H H' [(d, .dK (stK gl cl r (t + 1))), (gl, .lst (gs.map V.int)), (pp, .lst (([2147483629, 2147483587, 2147483579, 2147483563] : List Int).map V.int))] [])
    ⟨_, _, _, _, rfl, A2⟩ (fun i σ H' _ ⟨_, _, _, _, _, A⟩ => A.lst 2 rfl) ?_ ?_
  · clear A2 A1
    rintro i x σ H3 H3' hi ⟨fo, y2, y3, y4, rfl, A3⟩ ⟨rfl, hx⟩
    obtain ⟨pr, hpr, rfl⟩ : ∃ pr, ([2147483629, 2147483587, 2147483579, 2147483563] : List Int)[i]? = some pr ∧ x = V.int pr := by
      rw [List.getElem?_map] at hx
      obtain ⟨y, hy, e⟩ := Option.map_eq_some_iff.mp hx
      exact ⟨y, hy, e.symm⟩
    have hpm := List.mem_of_getElem? hpr
    have hp0 : 0 < pr ∧ pr < 2147483648 := by
      simp only [List.mem_cons, List.not_mem_nil, or_false] at hpm
      omega
    walk_at "rd"
    refine ⟨d, .int (t + 1), rfl, by rw [← st_turn (gl := gl) (cl := cl) (r := r)]; exact DGet.k (k := Sum.inr "turn") (A3.get 0 rfl), ?_⟩
    walk_at "rd"
    refine ⟨d, .ref cl, rfl, by rw [← st_cells (gl := gl) (r := r) (t := t + 1)]; exact DGet.k (k := Sum.inr "cells") (A3.get 0 rfl), ?_⟩
    have hcl : ∀ {G : Hp} {L T : List (Addr × HO)}, At [d, gl] H G L T → SqL K G cl (cs.map V.int) := fun A => .inl (.inl (S.cells A))
    refine ⟨cl, rfl, ⟨_, hcl A3⟩, ?_⟩
    refine forI (walk_list (xs := cs.map V.int)) (fun j σ H' => ∃ (bl : Int) (y4 : Option V), σ = [some (.ref d), some (.int fo), some (.int pr), some (.int bl), y4] ∧ bl.natAbs < 2 ^ 64 ∧
        At [d, gl] H H' [(d, .dK (stK gl cl r (t + 1))), (gl, .lst (gs.map V.int)), (pp, .lst (([2147483629, 2147483587, 2147483579, 2147483563] : List Int).map V.int))] [])
      ⟨_, _, rfl, ?_, A3⟩ (fun j σ H' _ ⟨_, _, _, _, A⟩ => hcl A) ?_ ?_
    · have h1 := Int.ediv_nonneg (a := pr) (b := 7) (by omega) (by decide)
      have h2 : pr / 7 ≤ pr := Int.ediv_le_self _ (by omega)
      omega
    · rintro j x σ H4 H4' hj ⟨bl, y4', rfl, hbl, A4⟩ ⟨rfl, hx⟩
      obtain ⟨c, rfl⟩ : ∃ c, x = V.int c := by
        rw [List.getElem?_map] at hx
        obtain ⟨c, _, e⟩ := Option.map_eq_some_iff.mp hx
        exact ⟨c, e.symm⟩
      walk_at "rd"
      refine rd_mod hp0.1 ?_
      have h1 := Int.emod_nonneg (bl * 48271 + c) (b := pr) (by omega)
      have h2 := Int.emod_lt_of_pos (bl * 48271 + c) hp0.1
      exact ⟨_, _, rfl, by omega, A4⟩
    · rintro σ H4 ⟨bl, y4', rfl, hbl, A4⟩
      walk_at "rd"
      refine rd_pow ⟨by decide, by decide, hbl⟩ ?_
      walk_at "rd"
      refine rd_mod hp0.1 ?_
      walk_at "rd"
      exact ⟨_, _, _, _, rfl, A4⟩
  · rintro σ H3 ⟨fo, y2, y3, y4, rfl, A3⟩
    walk_at "rd"
    exact q fo H3 ⟨A3.get 0 rfl, A3.get 1 rfl, S.len, by omega, A3.keep⟩
end
end Nn

namespace Nn
open PySem PySem.Spec PyProof.Rows L2
local macro_rules | `(tactic| walk_at "rd1") => `(tactic| first
  | with_reducible refine' rd_c ?_
  | ((with_reducible refine' rd_var ?h ?_); (case h => rfl))
  | with_reducible refine' rd_op ?_
  | with_reducible refine' rd_I0 ?_
  | with_reducible refine' rd_seq ?_
  | ((with_reducible refine' rd_mod ?h ?_); (case h => decide))
  | ((with_reducible refine' rd_fdiv ?h ?_); (case h => exact ⟨by decide, by decide⟩))
  | ((with_reducible refine' rd_pow ?h ?_); (case h => exact ⟨by decide, by decide, by decide⟩))
  | ((with_reducible refine' rd_mul ?h ?_); (case h => first | exact Or.inl (by decide) | exact Or.inr (by decide)))
  | with_reducible refine' rd_set ?_
  | with_reducible refine' rd_asg ?_
  | with_reducible refine' rd_cons ?_
  | with_reducible refine' rd_nil ?_
  | with_reducible refine' rd_call ?_
  | with_reducible refine' rd_cb ?_
  | with_reducible refine' rd_if ?_
  | with_reducible refine' rd_test ?_
  | with_reducible refine' rd_B ?_
  | with_reducible refine' rd_bl ?_
  | ((with_reducible refine' rd_eq ?h ?_); (case h => rfl))
  | ((with_reducible refine' rd_ne ?h ?_); (case h => rfl))
  | with_reducible refine' rd_not ?_
  | with_reducible refine' rd_and ?_
  | with_reducible refine' rd_or ?_
  | with_reducible refine' rd_notV ?_
  | with_reducible refine' rd_chain ?_
  | with_reducible refine' rd_ret ?_
  | with_reducible refine' rd_drop ?_
  | with_reducible refine' rd_next' ?_
  | with_reducible refine' rd_lst ?_
  | with_reducible refine' rd_tup ?_
  | with_reducible refine' rd_lc ?_
  | with_reducible refine' rd_rng1 ?_
  | with_reducible refine' rd_istr ?_
  | with_reducible refine' rd_ilst ?_
  | with_reducible refine' rd_ienum ?_
  | with_reducible refine' rd_bm0 ?_
  | with_reducible refine' rd_bm ?_
  | with_reducible refine' rd_m1 ?_
  | with_reducible refine' rd_sl ?_
  | with_reducible refine' rd_po0 ?_
  | with_reducible refine' rd_po1 ?_
  | with_reducible refine' rd_in ?_
  | with_reducible refine' rd_sub ?_
  | with_reducible refine' rd_ifE ?_
  | with_reducible refine' rd_un ?_
  | with_reducible refine' rd_U ?_
  | with_reducible refine' rd_brk ?_
  | with_reducible refine' rd_cont ?_
  | with_reducible refine' rd_yes ?_
  | with_reducible refine' rd_T ?_
  | with_reducible refine' rd_F ?_
  | with_reducible refine' rd_nT ?_
  | with_reducible refine' rd_nF ?_
  | with_reducible refine' rd_dni ?_
  | with_reducible refine' rd_di ?_
  | with_reducible refine' rd_dget ?_
  | with_reducible refine' rd_dget1 ?_
  | with_reducible refine' rd_dget2 ?_
  | with_reducible refine' rd_dget2N ?_
  | with_reducible refine' rd_dpop1 ?_
  | with_reducible refine' rd_ddel ?_
  | with_reducible refine' rd_mkN ?_
  | with_reducible refine' rd_mkV ?_
  | with_reducible refine' rd_dput ?_
  | with_reducible refine' rd_dnew ?_
  | with_reducible refine' rd_ikeys ?_
  | with_reducible refine' rd_gn ?_
  | with_reducible refine' rd_for ?_
  | with_reducible refine' rd_make ?_
  | with_reducible refine' rd_meth ?_
  | with_reducible refine' rd_fld ?_
  | with_reducible refine' rd_sfld ?_
  | with_reducible refine' rd_dc ?_
  | with_reducible refine' rd_items ?_
  | with_reducible refine' rd_sadd ?_
  | with_reducible refine' rd_ivals ?_
  | with_reducible refine' rd_callS ?_
  | with_reducible refine' rd_makeS ?_
  | with_reducible refine' rd_methS ?_
  | with_reducible refine' rd_fldH ?_
  | with_reducible refine' rd_mkO ?_)
local macro_rules | `(tactic| walk_at "sub") => `(tactic| repeat' (first | exact List.nil_sublist _ | exact List.Sublist.refl _ | apply List.Sublist.cons₂ | apply List.Sublist.cons))
local macro_rules | `(tactic| walk_at "rd") => `(tactic| repeat walk_at "rd1")

theorem depth_ints : ∀ zs : List Int, PyData.depthAll (zs.map PyData.int) = 0
  | [] => rfl
  | z :: zs => by
    show max (PyData.depth (.int z)) (PyData.depthAll (zs.map PyData.int)) = 0
    rw [depth_ints zs]; rfl
theorem lay_ints : ∀ zs : List Int, PyData.canLayAll0 (zs.map PyData.int) = true
  | [] => rfl
  | z :: zs => by
    show (PyData.canLay0 (.int z) && PyData.canLayAll0 (zs.map PyData.int)) = true
    rw [lay_ints zs]; rfl
theorem shaped_ints (zs : List Int) : SeqAt.shaped (.list (zs.map PyData.int)) = true := by
  unfold SeqAt.shaped
  rw [show PyData.canLay0 (.list (zs.map PyData.int)) = PyData.canLayAll0 (zs.map PyData.int) from rfl, lay_ints zs]
  rw [show PyData.depth (.list (zs.map PyData.int)) = PyData.depthAll (zs.map PyData.int) + 1 from rfl, depth_ints]
  rfl
theorem eqv_ints_nil (zs : List Int) : PyData.eqv (.list (zs.map PyData.int)) (.list []) = decide (zs = []) := by
  cases zs with
  | nil => rfl
  | cons c r => rfl
theorem dp_ints {K : PySem.W.Frag} {H : Hp} : ∀ zs : List Int, DpAll K H (zs.map V.int) (zs.map PyData.int)
  | [] => .nil
  | z :: zs => .cons (.int z) (dp_ints zs)
section
variable {P : Program} {w : World} {K : PySem.W.Frag} {mg : Str → Option Value} {base : Heap}
structure CTake (P : Program) (w : World) (K : PySem.W.Frag) (mg : Str → Option Value) (base : Heap) : Prop where
  _law_mixed : Cl P w K mg base 1 "_law_mixed" spMixed
def spTake : Sp := fun vs H Q _ => ∃ (d gl cl : Addr) (r t n : Int) (gs cs : List Int), vs = [.ref d, .int n] ∧ StIn H d gl cl r t gs cs ∧ t ≤ 1000000 ∧ 0 < n ∧ n < 1073741824 ∧ ∀ k r' t' gs' H', 0 ≤ k → k < n → t' ≤ t + 1 → StOut H H' d gl cl r' t' gs' → Q (.int k) H'
theorem ok__law_take {f : Addr} {fd : FuncData} (F : Fun K "_law_take" "_law_take" s_law_take f fd) (B : Blt mg) (C : CTake P w K mg base) : FnOk P w K mg base CX0 2 f fd P_law_take spTake := by
  refine F.ok sc_law_take (fun vs H Q E h => by obtain ⟨d, gl, cl, r, t, n, gs, cs, rfl, _⟩ := h; rfl) (fun cdv A outer s0 H vs Q E hr h => ?_)
  obtain ⟨d, gl, cl, r, t, n, gs, cs, rfl, S, ht, hn0, hn1, q⟩ := h
  refine ⟨_, Evl.pss_cut (ps_if (pt_cmpR op_eq (pe_dget (hu_of hr) (pv 0) pe_str (fun _ _ => rfl)) pe_int (nomark _)) (pss_one (ps_dput (hu_of hr) (pv 0) pe_str (pe_ifExp (pt_cmpR (op_neD hr.units) (pe_dget (hu_of hr) (pv 0) pe_str (fun _ _ => rfl)) (pe_lst pa_nil) (nomark _)) (pe_bm PySem.F.plainAttrs_list PySem.F.slot_list_pop PySem.F.type_list_pop mt_popAt (pe_dget (hu_of hr) (pv 0) pe_str (fun _ _ => rfl)) (pa_cons pe_int pa_nil)) (pe_cl C._law_mixed hr (by omega) (by rfl) (pa_cons (pv 0) pa_nil))) rfl))
   (pss_nil))
  (pss_cons (ps_set (i := 2) sc_law_take.nd rfl (Or.inl rfl) (pe_op op_mod (pe_dget (hu_of hr) (pv 0) pe_str (fun _ _ => rfl)) (pv 1)))
  (pss_cons (ps_dput (hu_of hr) (pv 0) pe_str (pe_op op_fdiv (pe_dget (hu_of hr) (pv 0) pe_str (fun _ _ => rfl)) (pv 1)) rfl)
  (pss_one (ps_ret (pv 2))))), ?_⟩
  dsimp only [cxOf, Cx.nox]
  have A := S.at
  have t0 := S.t0
  have hlen := S.len
  walk_at "rd"
  refine rd_cut (fun σ' H' => ∃ (r' t' : Int) (gs' : List Int), σ' = [some (.ref d), some (.int n), none] ∧ gs'.length ≤ 63 ∧ 0 ≤ t' ∧ t' ≤ t + 1 ∧ At [d, gl] H H' [(d, .dK (stK gl cl r' t')), (gl, .lst (gs'.map V.int))] []) ?_ ?_
  · walk_at "rd"
    refine ⟨d, .int r, rfl, by rw [← st_rest (gl := gl) (cl := cl) (t := t)]; exact DGet.k (k := Sum.inr "rest") (A.get 0 rfl), ?_⟩
    walk_at "rd"
    refine rd_iteB (fun _ => ?_) (fun _ => ?_)
    · walk_at "rd"
      refine ⟨d, .ref gl, rfl, by rw [← st_great (cl := cl) (r := r) (t := t)]; exact DGet.k (k := Sum.inr "great") (A.get 0 rfl), ?_⟩
      walk_at "rd"
      refine ⟨szl rfl, fun e he => ?_⟩
      have A1 := A.skip (Sk.of (o := .lst []) he)
      refine ⟨.list (gs.map PyData.int), .list [], .lst (A1.lst 1 rfl) (dp_ints _), .lst (.inl (.inl upd_same)) .nil, shaped_ints gs, rfl, ?_⟩
      rw [eqv_ints_nil]
      revert A1
      generalize upd H e (.lst []) = H1
      intro A1
      refine rd_bl ?_
      refine rd_iteN (fun hne => ?_) (fun hnil => ?_)
      · walk_at "rd"
        refine ⟨d, .ref gl, rfl, by rw [← st_great (cl := cl) (r := r) (t := t)]; exact DGet.k (k := Sum.inr "great") (A1.get 0 rfl), ?_⟩
        refine ⟨.inl ⟨rfl, _, A1.lst 1 rfl⟩, ?_⟩
        walk_at "rd"
        obtain ⟨y, gs', rfl⟩ : ∃ y l, gs = y :: l := by
          cases gs with
          | nil => exact absurd rfl hne
          | cons y l => exact ⟨y, l, rfl⟩
        refine ⟨gl, _, 0, 0, .int y, rfl, rfl, A1.get 1 rfl, by decide, by decide, PySem.StrLaws.seqIndex_nonneg (by decide) (by simp), rfl, ?_⟩
        have A2 := A1.set 1 rfl (.lst (gs'.map V.int))
        have ee : ((y :: gs').map V.int).eraseIdx 0 = gs'.map V.int := rfl
        rw [ee]
        revert A2
        generalize upd H1 gl (.lst (gs'.map V.int)) = H2
        intro A2
        dsimp only
        walk_at "rd"
        refine ⟨d, _, rfl, DPut.k (k := Sum.inr "rest") (A2.get 0 rfl) st_len, ?_⟩
        rw [st_putR]
        have A3 := A2.set 0 rfl (.dK (stK gl cl y t))
        exact ⟨y, t, gs', rfl, by rw [List.length_cons] at hlen; omega, t0, by omega, A3⟩
      · walk_at "rd"
        refine ⟨d, gl, cl, r, t, gs, cs, rfl, ⟨A1.get 0 rfl, A1.get 1 rfl, S.cells A1, S.ne, hlen, t0⟩, ht, fun k H2 So => ?_⟩
        have A2 := So.at A1 0 1 rfl rfl (by decide)
        walk_at "rd"
        refine ⟨d, _, rfl, DPut.k (k := Sum.inr "rest") (A2.get 0 rfl) st_len, ?_⟩
        rw [st_putR]
        have A3 := A2.set 0 rfl (.dK (stK gl cl k (t + 1)))
        exact ⟨k, t + 1, gs, rfl, hlen, by omega, by omega, A3⟩
    · walk_at "rd"
      exact ⟨r, t, gs, rfl, hlen, t0, by omega, A⟩
  · rintro σ H1 ⟨r1, t1, gs1, rfl, hl1, h0, h1, A1⟩
    walk_at "rd"
    refine ⟨d, .int r1, rfl, by rw [← st_rest (gl := gl) (cl := cl) (t := t1)]; exact DGet.k (k := Sum.inr "rest") (A1.get 0 rfl), ?_⟩
    walk_at "rd"
    refine rd_mod hn0 ?_
    walk_at "rd"
    refine ⟨d, .int r1, rfl, by rw [← st_rest (gl := gl) (cl := cl) (t := t1)]; exact DGet.k (k := Sum.inr "rest") (A1.get 0 rfl), ?_⟩
    walk_at "rd"
    refine rd_fdiv ⟨hn0, hn1⟩ ?_
    walk_at "rd"
    refine ⟨d, _, rfl, DPut.k (k := Sum.inr "rest") (A1.get 0 rfl) st_len, ?_⟩
    rw [st_putR]
    refine A1.s1 0 rfl fun H2 A2 => ?_
    walk_at "rd"
    exact q _ _ t1 gs1 H2 (Int.emod_nonneg _ (by omega)) (Int.emod_lt_of_pos _ hn0) h1 ⟨A2.get 0 rfl, A2.get 1 rfl, hl1, h0, A2.keep⟩
/-! ### one of some things -/
structure CPick (P : Program) (w : World) (K : PySem.W.Frag) (mg : Str → Option Value) (base : Heap) : Prop where
  _law_take : Cl P w K mg base 2 "_law_take" spTake
def spPick (K : PySem.W.Frag) : Sp := fun vs H Q _ => ∃ (d gl cl a : Addr) (r t : Int) (gs cs : List Int) (xs : List V), vs = [.ref d, .ref a] ∧ StIn H d gl cl r t gs cs ∧ t ≤ 1000000 ∧ SqL K H a xs ∧ a ≠ d ∧ a ≠ gl ∧ xs ≠ [] ∧ xs.length ≤ 100 ∧ ∀ k ∈ xs, ∀ r' t' gs' H', t' ≤ t + 1 → StOut H H' d gl cl r' t' gs' → Q k H'
theorem ok__law_pick {f : Addr} {fd : FuncData} (F : Fun K "_law_pick" "_law_pick" s_law_pick f fd) (B : Blt mg) (C : CPick P w K mg base) : FnOk P w K mg base CX0 3 f fd P_law_pick (spPick K) := by
  refine F.ok sc_law_pick (fun vs H Q E h => by obtain ⟨d, gl, cl, a, r, t, gs, cs, xs, rfl, _⟩ := h; rfl) (fun cdv A outer s0 H vs Q E hr h => ?_)
  obtain ⟨d, gl, cl, a, r, t, gs, cs, xs, rfl, S, ht, hS, n1, n2, hne, hxl, q⟩ := h
  refine ⟨_, pss_one (ps_ret (pe_ix ix_list (pv 1) (pe_cl C._law_take hr (by omega) (by rfl) (pa_cons (pv 0) (pa_cons (pe_callB call_len_seq (by rfl) B.len (by decide +kernel) (pa_cons (pv 1) pa_nil)) pa_nil))) (fun _ _ => rfl))), ?_⟩
  dsimp only [cxOf, Cx.nox]
  have hpos : 0 < xs.length := List.length_pos_iff.mpr hne
  walk_at "rd"
  refine ⟨a, _, rfl, .inl hS, ?_⟩
  walk_at "rd"
  refine ⟨d, gl, cl, r, t, _, gs, cs, rfl, S, ht, by omega, by omega, fun k r' t' gs' H' h0 h1 h2 So => ?_⟩
  obtain ⟨x, hx, e⟩ := atI_ex (xs := xs) h0 h1
  exact rd_ixL (So.k.seq hS (by rw [List.mem_cons, List.mem_singleton]; exact fun h => h.elim n1 n2)) e (q x hx r' t' gs' H' h2 So)
/-- a letter -/
def spPickS : Sp := fun vs H Q _ => ∃ (d gl cl : Addr) (r t : Int) (gs cs : List Int), vs = [.ref d, .str letters] ∧ StIn H d gl cl r t gs cs ∧ t ≤ 1000000 ∧ ∀ c ∈ letters.cps.toList, ∀ r' t' gs' H', t' ≤ t + 1 → StOut H H' d gl cl r' t' gs' → Q (.str ⟨#[c]⟩) H'
theorem ok__law_pickS {f : Addr} {fd : FuncData} (F : Fun K "_law_pick" "_law_pick" s_law_pick f fd) (B : Blt mg) (C : CPick P w K mg base) : FnOk P w K mg base CX0 3 f fd P_law_pick spPickS := by
  refine F.ok sc_law_pick (fun vs H Q E h => by obtain ⟨d, gl, cl, r, t, gs, cs, rfl, _⟩ := h; rfl) (fun cdv A outer s0 H vs Q E hr h => ?_)
  obtain ⟨d, gl, cl, r, t, gs, cs, rfl, S, ht, q⟩ := h
  refine ⟨_, pss_one (ps_ret (pe_ix ix_str (pv 1) (pe_cl C._law_take hr (by omega) (by rfl) (pa_cons (pv 0) (pa_cons (pe_callB call_len_str (by rfl) B.len (by decide +kernel) (pa_cons (pv 1) pa_nil)) pa_nil))) (fun _ _ => rfl))), ?_⟩
  have l26 : letters.length = 26 := by decide +kernel
  walk_at "rd"
  refine ⟨letters, rfl, by rw [l26]; exact szn (by decide), ?_⟩
  rw [l26]
  walk_at "rd"
  refine ⟨d, gl, cl, r, t, _, gs, cs, rfl, S, ht, by decide, by decide, fun k r' t' gs' H' h0 h1 h2 So => ?_⟩
  obtain ⟨x, hx, e⟩ := atI_ex (xs := letters.cps.toList) h0 (by rw [letters_len]; exact h1)
  exact rd_ixS (by rw [l26]; exact szn (by decide)) e (q x hx r' t' gs' H' h2 So)
/-! ### a name -/
structure CWord (P : Program) (w : World) (K : PySem.W.Frag) (mg : Str → Option Value) (base : Heap) : Prop where
  _law_take : Cl P w K mg base 2 "_law_take" spTake
  _law_pick : Cl P w K mg base 3 "_law_pick" spPickS
def spWord : Sp := fun vs H Q _ => ∃ (d gl cl : Addr) (r t : Int) (gs cs : List Int), vs = [.ref d] ∧ StIn H d gl cl r t gs cs ∧ t ≤ 500000 ∧ ∀ z, nameOk z = true → ∀ r' t' gs' H', t' ≤ t + 9 → StOut H H' d gl cl r' t' gs' → Q (.str z) H'
theorem ok__law_word {f : Addr} {fd : FuncData} (F : Fun K "_law_word" "_law_word" s_law_word f fd) (B : Blt mg) (C : CWord P w K mg base) : FnOk P w K mg base CX0 4 f fd P_law_word spWord := by
  refine F.ok sc_law_word (fun vs H Q E h => by obtain ⟨d, gl, cl, r, t, gs, cs, rfl, _⟩ := h; rfl) (fun cdv A outer s0 H vs Q E hr h => ?_)
  obtain ⟨d, gl, cl, r, t, gs, cs, rfl, S, ht, q⟩ := h
  refine ⟨_, pss_one (ps_ret (pe_join pe_str (pe_lc (own := [("_law_turn", 1)]) rfl sc_law_word.nd (pi_range1 (by rfl) B.range (pa_cons (pe_op op_add pe_int (pe_cl C._law_take hr (by omega) (by rfl) (pa_cons (pv 0) (pa_cons pe_int pa_nil)))) pa_nil)) (blkOk_by (N := N_law_word) (sc := defScope s_law_word) (by decide +kernel)) (fun _ _ _ _ _ => (pg_name (i := 1) sc_law_word.nd rfl (Or.inl rfl))) (fun _ _ _ _ _ => pts_nil) (fun _ _ _ _ _ => (pe_cl C._law_pick hr (by omega) (by rfl) (pa_cons (pv 0) (pa_cons pe_str pa_nil))))))), ?_⟩
  have A := S.at
  walk_at "rd"
  refine ⟨⟨_, rfl⟩, ?_⟩
  walk_at "rd"
  refine ⟨d, gl, cl, r, t, _, gs, cs, rfl, S, by omega, by decide, by decide, fun k r1 t1 gs1 H1 h0 h1 h2 So => ?_⟩
  have A1 := So.at A 0 1 rfl rfl (by decide)
  have l1 := So.len
  have p1 := So.t0
  clear A So
  walk_at "rd"
  refine ⟨_, rfl, by omega, by omega, fun D hD => ?_⟩
  refine lc_range (fun i H' => ∃ (r2 t2 : Int) (gs2 : List Int) (zs : List Nat), gs2.length ≤ 63 ∧ 0 ≤ t2 ∧ t2 ≤ t + 1 + i ∧ zs.length = i ∧ (∀ c ∈ zs, signOk c = true) ∧ At [d, gl] H H' [(d, .dK (stK gl cl r2 t2)), (gl, .lst (gs2.map V.int)), (D, .lst (sg zs))] [])
    ⟨r1, t1, gs1, [], l1, p1, by omega, rfl, by simp, A1.snoc hD _⟩ ?_ ?_
  · rintro i H5 hi ⟨r2, t2, gs2, zs, l2, p2, p3, hl, hz, A5⟩
    refine ⟨rfl, ?_⟩
    walk_at "rd"
    refine ⟨d, gl, cl, r2, t2, gs2, cs, rfl, ⟨A5.get 0 rfl, A5.get 1 rfl, S.cells A5, S.ne, l2, p2⟩, by omega, fun c hc r3 t3 gs3 H6 h3 So => ?_⟩
    have A6 := So.at A5 0 1 rfl rfl (by decide)
    refine ⟨_, A6.get 2 rfl, by rw [sg_len]; exact szn' (by omega), r3, t3, gs3, zs ++ [c], So.len, So.t0, by omega, by rw [List.length_append, hl]; rfl, ?_, ?_⟩
    · intro e he
      rcases List.mem_append.mp he with he | he
      · exact hz e he
      · rw [List.mem_singleton] at he; exact he ▸ (letters_ok c hc).1
    · have := A6.set 2 rfl (.lst (sg zs ++ [.str ⟨#[c]⟩]))
      rw [show sg (zs ++ [c]) = sg zs ++ [.str ⟨#[c]⟩] by unfold sg; rw [List.map_append]; rfl]
      exact this
  rintro H2 ⟨r2, t2, gs2, b, l2, p2, p3, hl, hz, A2⟩
  refine ⟨_, _, sgs b, rfl, rfl, .inl ?_, ?_, ?_⟩
  · rw [← sg_sgs]; exact A2.lst 2 rfl
  · rw [sgs_size]; omega
  rw [show Txt.join ("" : Str) (sgs b) = SX.S b from join_sgs b]
  refine q _ ?_ r2 t2 gs2 H2 (by omega) ⟨A2.get 0 rfl, A2.get 1 rfl, l2, p2, A2.keep⟩
  rw [nameOk_S, Bool.and_eq_true]
  exact ⟨decide_eq_true (by omega), List.all_eq_true.mpr fun c hc => hz c hc⟩
end
end Nn

namespace Nn
open PySem PySem.Spec PyProof.Rows L2
local macro_rules | `(tactic| walk_at "rd1") => `(tactic| first
  | with_reducible refine' rd_c ?_
  | ((with_reducible refine' rd_var ?h ?_); (case h => rfl))
  | with_reducible refine' rd_op ?_
  | with_reducible refine' rd_I0 ?_
  | with_reducible refine' rd_seq ?_
  | ((with_reducible refine' rd_mod ?h ?_); (case h => decide))
  | ((with_reducible refine' rd_fdiv ?h ?_); (case h => exact ⟨by decide, by decide⟩))
  | ((with_reducible refine' rd_pow ?h ?_); (case h => exact ⟨by decide, by decide, by decide⟩))
  | ((with_reducible refine' rd_mul ?h ?_); (case h => first | exact Or.inl (by decide) | exact Or.inr (by decide)))
  | with_reducible refine' rd_set ?_
  | with_reducible refine' rd_asg ?_
  | with_reducible refine' rd_cons ?_
  | with_reducible refine' rd_nil ?_
  | with_reducible refine' rd_call ?_
  | with_reducible refine' rd_cb ?_
  | with_reducible refine' rd_if ?_
  | with_reducible refine' rd_test ?_
  | with_reducible refine' rd_B ?_
  | with_reducible refine' rd_bl ?_
  | ((with_reducible refine' rd_eq ?h ?_); (case h => rfl))
  | ((with_reducible refine' rd_ne ?h ?_); (case h => rfl))
  | with_reducible refine' rd_not ?_
  | with_reducible refine' rd_and ?_
  | with_reducible refine' rd_or ?_
  | with_reducible refine' rd_notV ?_
  | with_reducible refine' rd_chain ?_
  | with_reducible refine' rd_ret ?_
  | with_reducible refine' rd_drop ?_
  | with_reducible refine' rd_next' ?_
  | with_reducible refine' rd_lst ?_
  | with_reducible refine' rd_tup ?_
  | with_reducible refine' rd_lc ?_
  | with_reducible refine' rd_rng1 ?_
  | with_reducible refine' rd_istr ?_
  | with_reducible refine' rd_ilst ?_
  | with_reducible refine' rd_ienum ?_
  | with_reducible refine' rd_bm0 ?_
  | with_reducible refine' rd_bm ?_
  | with_reducible refine' rd_m1 ?_
  | with_reducible refine' rd_sl ?_
  | with_reducible refine' rd_po0 ?_
  | with_reducible refine' rd_po1 ?_
  | with_reducible refine' rd_in ?_
  | with_reducible refine' rd_sub ?_
  | with_reducible refine' rd_ifE ?_
  | with_reducible refine' rd_un ?_
  | with_reducible refine' rd_U ?_
  | with_reducible refine' rd_brk ?_
  | with_reducible refine' rd_cont ?_
  | with_reducible refine' rd_yes ?_
  | with_reducible refine' rd_T ?_
  | with_reducible refine' rd_F ?_
  | with_reducible refine' rd_nT ?_
  | with_reducible refine' rd_nF ?_
  | with_reducible refine' rd_dni ?_
  | with_reducible refine' rd_di ?_
  | with_reducible refine' rd_dget ?_
  | with_reducible refine' rd_dget1 ?_
  | with_reducible refine' rd_dget2 ?_
  | with_reducible refine' rd_dget2N ?_
  | with_reducible refine' rd_dpop1 ?_
  | with_reducible refine' rd_ddel ?_
  | with_reducible refine' rd_mkN ?_
  | with_reducible refine' rd_mkV ?_
  | with_reducible refine' rd_dput ?_
  | with_reducible refine' rd_dnew ?_
  | with_reducible refine' rd_ikeys ?_
  | with_reducible refine' rd_gn ?_
  | with_reducible refine' rd_for ?_
  | with_reducible refine' rd_make ?_
  | with_reducible refine' rd_meth ?_
  | with_reducible refine' rd_fld ?_
  | with_reducible refine' rd_sfld ?_
  | with_reducible refine' rd_dc ?_
  | with_reducible refine' rd_items ?_
  | with_reducible refine' rd_sadd ?_
  | with_reducible refine' rd_ivals ?_
  | with_reducible refine' rd_callS ?_
  | with_reducible refine' rd_makeS ?_
  | with_reducible refine' rd_methS ?_
  | with_reducible refine' rd_fldH ?_
  | with_reducible refine' rd_mkO ?_)
local macro_rules | `(tactic| walk_at "sub") => `(tactic| repeat' (first | exact List.nil_sublist _ | exact List.Sublist.refl _ | apply List.Sublist.cons₂ | apply List.Sublist.cons))
local macro_rules | `(tactic| walk_at "rd") => `(tactic| repeat walk_at "rd1")

theorem eqV_str17 (x y : Str) : eqV (.str x) (.str y) = decide (x = y) := by
  show (_ : Bool) = _
  by_cases h : x = y
  · subst h; rw [decide_eq_true rfl]; exact beq_self_eq_true _
  · rw [decide_eq_false h]; exact beq_eq_false_iff_ne.mpr h
theorem inV_strs17 (x : Str) (l : List Str) : inV (.str x) (l.map V.str) = decide (x ∈ l) := by
  unfold inV
  rw [List.any_map]
  induction l with
  | nil => rfl
  | cons y r ih =>
    rw [List.any_cons, ih]
    show (eqV (.str y) (.str x) || _) = _
    rw [eqV_str17, ← Bool.decide_or]
    exact decide_eq_decide.mpr (by rw [List.mem_cons, eq_comm (a := x)])
theorem flat_strs17 (l : List Str) : (l.map V.str).all flatV = true := by
  rw [List.all_map, List.all_eq_true]
  intro o _
  rfl
theorem cut_strs (l : List Str) (lo hi : Option Int) : ∃ l' : List Str, cutV (l.map V.str) lo hi = l'.map V.str ∧ (∀ z ∈ l', z ∈ l) ∧ l'.length ≤ l.length := by
  unfold cutV
  rw [← List.map_drop, ← List.map_take]
  exact ⟨_, rfl, fun z hz => List.mem_of_mem_drop (List.mem_of_mem_take hz), by rw [List.length_take, List.length_drop]; omega⟩
/-- a word, and the words near it -/
def nearW (z : Str) : List Str := letters.cps.toList.map fun c => SX.S (z.cps.toList.take 7 ++ [c])
theorem letters_nd : letters.cps.toList.Nodup := by decide +kernel
theorem near_nd (z : Str) : (nearW z).Nodup := by
  unfold nearW
  rw [List.Nodup, List.pairwise_map]
  refine letters_nd.imp fun {a b} h e => h ?_
  have e := List.append_cancel_left (SX.S_inj e)
  exact (List.cons.inj e).1
theorem near_ok {z : Str} (hz : nameOk z = true) : ∀ y ∈ nearW z, nameOk y = true := by
  intro y hy
  obtain ⟨c, hc, rfl⟩ := List.mem_map.mp hy
  rw [nameOk_S, Bool.and_eq_true]
  refine ⟨decide_eq_true ?_, ?_⟩
  · rw [List.length_append, List.length_take, List.length_singleton]; omega
  · rw [List.all_append, Bool.and_eq_true]
    refine ⟨List.all_eq_true.mpr fun x hx => nameOk_sign hz x (List.mem_of_mem_take hx), ?_⟩
    rw [List.all_cons, (letters_ok c hc).1]; rfl
theorem near_free {z : Str} {fo : List Str} (h : fo.length ≤ 20) : (z :: nearW z).filter (fun y => !decide (y ∈ fo)) ≠ [] := by
  intro e
  rw [List.filter_eq_nil_iff] at e
  have hs : ∀ y ∈ nearW z, y ∈ fo := fun y hy => by
    have := e y (List.mem_cons_of_mem _ hy)
    simpa using this
  have h1 := List.Nodup.length_le_of_subset (near_nd z) hs
  unfold nearW at h1
  rw [List.length_map, letters_len] at h1
  omega
theorem S_self (z : Str) : SX.S z.cps.toList = z := by
  cases z
  simp [SX.S]
section
variable {P : Program} {w : World} {K : PySem.W.Frag} {mg : Str → Option Value} {base : Heap}
structure CRing (P : Program) (w : World) (K : PySem.W.Frag) (mg : Str → Option Value) (base : Heap) : Prop where
  _law_take : Cl P w K mg base 2 "_law_take" spTake
  _law_word : Cl P w K mg base 4 "_law_word" spWord
def spRing17 : Sp := fun vs H Q _ => ∃ (d gl cl : Addr) (r t : Int) (gs cs : List Int), vs = [.ref d] ∧ StIn H d gl cl r t gs cs ∧ t ≤ 100000 ∧ ∀ (l : List Str) p r' t' gs' H', l.length ≤ 10 → (∀ z ∈ l, nameOk z = true) → t' ≤ t + 60 → StOut H H' d gl cl r' t' gs' → H p = none → H' p = some (.tup (l.map V.str)) → Q (.ref p) H'
theorem ok__law_ring {f : Addr} {fd : FuncData} (F : Fun K "_law_ring" "_law_ring" s_law_ring f fd) (B : Blt mg) (C : CRing P w K mg base) : FnOk P w K mg base CX0 5 f fd P_law_ring spRing17 := by
  refine F.ok sc_law_ring (fun vs H Q E h => by obtain ⟨d, gl, cl, r, t, gs, cs, rfl, _⟩ := h; rfl) (fun cdv A outer s0 H vs Q E hr h => ?_)
  obtain ⟨d, gl, cl, r, t, gs, cs, rfl, S, ht, q⟩ := h
  refine ⟨_, pss_cons (ps_set (i := 1) sc_law_ring.nd rfl (Or.inr rfl) (pe_lst pa_nil))
  (pss_cons (ps_for PassesOwn.never rfl (pi_range1 (by rfl) B.range (pa_cons (pe_op op_add pe_int (pe_cl C._law_take hr (by omega) (by rfl) (pa_cons (pv 0) (pa_cons pe_int pa_nil)))) pa_nil)) (pg_name (i := 2) sc_law_ring.nd rfl (Or.inl rfl))
   (pss_cons (ps_set (i := 3) sc_law_ring.nd rfl (Or.inr rfl) (pe_cl C._law_word hr (by omega) (by rfl) (pa_cons (pv 0) pa_nil)))
  (pss_cons (ps_set (i := 4) sc_law_ring.nd rfl (Or.inl rfl) (pe_op op_cat (pe_lst (pa_cons (pv 3) pa_nil)) (pe_lc (own := [("_law_letter", 6)]) rfl sc_law_ring.nd (pi_str pe_str) (blkOk_by (N := N_law_ring) (sc := defScope s_law_ring) (by decide +kernel)) (fun _ _ _ _ _ => (pg_name (i := 6) sc_law_ring.nd rfl (Or.inl rfl))) (fun _ _ _ _ _ => pts_nil) (fun _ _ _ _ _ => (pe_op op_add_str (pe_slice C8.sl_txt (pv 3) po_none (po_some pe_int)) (pv 6))))))
  (pss_one (ps_expr (pe_bm PySem.F.plainAttrs_list PySem.F.slot_list_append PySem.F.type_list_append mt_append (pv 1) (pa_cons (pe_ix ix_list (pe_lc (own := [("_law_one", 7)]) rfl sc_law_ring.nd (pi_list (pv 4)) (blkOk_by (N := N_law_ring) (sc := defScope s_law_ring) (by decide +kernel)) (fun _ _ _ _ _ => (pg_name (i := 7) sc_law_ring.nd rfl (Or.inl rfl))) (fun _ _ _ _ _ => pts_one (pt_cmpR (op_notIn_seq' (K := K) rfl) (pv 7) (pv 1) (by rfl))) (fun _ _ _ _ _ => (pv 7))) pe_int (fun _ _ => rfl)) pa_nil)))))))
  (pss_cons (ps_set (i := 5) sc_law_ring.nd rfl (Or.inl rfl) (pe_bm PySem.F.plainAttrs_list PySem.F.slot_list_index PySem.F.type_list_index mt_index (pv 1) (pa_cons (pe_callB (cr_minS rfl) (by rfl) B.min (by decide +kernel) (pa_cons (pv 1) pa_nil)) pa_nil)))
  (pss_one (ps_ret (pe_callTy call_tuple_of (by rfl) B.tuple (by decide +kernel) (pa_cons (pe_op op_cat (pe_slice sl_list (pv 1) (po_some (pv 5)) po_none) (pe_slice sl_list (pv 1) po_none (po_some (pv 5)))) pa_nil)))))), ?_⟩
  dsimp only [cxOf, Cx.nox]
  have A := S.at
  walk_at "rd"
  refine ⟨szl rfl, fun pf hpf => ?_⟩
  have A0 := A.snoc hpf (.lst [])
  revert A0
  generalize upd H pf (.lst []) = H0
  intro A0
  walk_at "rd"
  refine ⟨d, gl, cl, r, t, _, gs, cs, rfl, ⟨A0.get 0 rfl, A0.get 1 rfl, S.cells A0, S.ne, S.len, S.t0⟩, by omega, by decide, by decide, fun k r1 t1 gs1 H1 h0 h1 h2 So => ?_⟩
  have A1 := So.at A0 0 1 rfl rfl (by decide)
  have l1 := So.len
  have p1 := So.t0
  clear A A0 So
  walk_at "rd"
  refine ⟨_, rfl, by omega, by omega, ?_⟩
  refine forI (walk_range (lo := 0) (n := (2 + k).toNat)) (fun i σ H' => ∃ (r2 t2 : Int) (gs2 : List Int) (fo : List Str) (y2 y3 y4 : Option V), σ = [some (.ref d), some (.ref pf), y2, y3, y4, none, none, none] ∧ gs2.length ≤ 63 ∧ 0 ≤ t2 ∧ t2 ≤ t + 1 + 9 * i ∧ fo.length = i ∧ (∀ z ∈ fo, nameOk z = true) ∧
      At [d, gl] H H' [(d, .dK (stK gl cl r2 t2)), (gl, .lst (gs2.map V.int)), (pf, .lst (fo.map V.str))] [])
    ⟨r1, t1, gs1, [], _, _, _, rfl, l1, p1, by omega, rfl, by simp, A1⟩ (fun _ _ _ _ _ => trivial) ?_ ?_
  · rintro i x σ H2 H2' hi ⟨r2, t2, gs2, fo, y2, y3, y4, rfl, l2, p2, p3, hl, hz, A2⟩ ⟨rfl, rfl⟩
    dsimp only
    rw [Int.zero_add]
    walk_at "rd"
    refine ⟨d, gl, cl, r2, t2, gs2, cs, rfl, ⟨A2.get 0 rfl, A2.get 1 rfl, S.cells A2, S.ne, l2, p2⟩, by omega, fun z hzn r3 t3 gs3 H3 h3 So => ?_⟩
    have A3 := So.at A2 0 1 rfl rfl (by decide)
    have l3 := So.len
    have pt3 := So.t0
    clear A2 So
    walk_at "rd"
    refine ⟨szl rfl, fun p4 hp4 => ?_⟩
    have A4 := A3.snoc hp4 (.lst [.str z])
    revert A4
    generalize upd H3 p4 (.lst [.str z]) = H4
    intro A4
    walk_at "rd"
    have hz8 := nameOk_len hzn
    have hlz : z.cps.toList.length = z.length := Array.length_toList
    refine ⟨letters, rfl, fun D hD => ?_⟩
    refine lc_it walk_str (fun j H' => At [d, gl] H H' [(d, .dK (stK gl cl r3 t3)), (gl, .lst (gs3.map V.int)), (pf, .lst (fo.map V.str)), (p4, .lst [.str z]), (D, .lst (((nearW z).take j).map V.str))] []) (A4.snoc hD _) (fun _ _ _ _ => trivial) ?_ ?_
    · rintro j x H5 H6 hj A5 ⟨rfl, c, hc, rfl⟩
      refine ⟨rfl, rd_yes (rd_T ?_)⟩
      walk_at "rd"
      refine ⟨z, rfl, szn (by omega), ?_⟩
      have hcl : letters.cps.toList[j]? = some c := by rw [Array.getElem?_toList]; exact hc
      have es : Txt.slice z none (some 7) = SX.S (z.cps.toList.take 7) := by
        have := SX.slice_to (a := z.cps.toList) (i := 7) (by decide)
        rw [S_self] at this
        exact this
      rw [es]
      walk_at "rd"
      refine ⟨_, _, rfl, rfl, szn ?_, ?_⟩
      · rw [SX.S_len, List.length_take]; show _ + 1 ≤ _; omega
      rw [show SX.S (z.cps.toList.take 7) ++ (⟨#[c]⟩ : Str) = SX.S (z.cps.toList.take 7 ++ [c]) from SX.S_cat _ [_]]
      have en : (nearW z).take (j + 1) = (nearW z).take j ++ [SX.S (z.cps.toList.take 7 ++ [c])] := by
        rw [List.take_add_one]
        unfold nearW
        rw [List.getElem?_map, hcl]; rfl
      refine ⟨_, A5.get 4 rfl, ?_, ?_⟩
      · rw [List.length_map, List.length_take]
        unfold nearW
        rw [List.length_map, letters_len]
        exact szn' (by omega)
      · have A6 := A5.set 4 rfl (.lst (((nearW z).take j).map V.str ++ [.str (SX.S (z.cps.toList.take 7 ++ [c]))]))
        rw [en, List.map_append]
        exact A6
    intro H5 A5
    have hnl : (nearW z).length = 26 := by unfold nearW; rw [List.length_map, letters_len]
    rw [show letters.cps.size = (nearW z).length from by rw [hnl]; decide +kernel, List.take_length] at A5
    refine ⟨p4, D, _, _, rfl, rfl, A5.get 3 rfl, A5.get 4 rfl, szn (by simp only [List.length_map, List.length_cons, List.length_nil]; omega), fun pn hpn => ?_⟩
    have A6 := A5.snoc hpn (.lst ((z :: nearW z).map V.str))
    have A6 := A6.sel (L' := [(d, .dK (stK gl cl r3 t3)), (gl, .lst (gs3.map V.int)), (pf, .lst (fo.map V.str)), (pn, .lst ((z :: nearW z).map V.str))]) (by simp) (by walk_at "sub")
    have eap : [V.str z] ++ (nearW z).map V.str = (z :: nearW z).map V.str := rfl
    rw [eap]
    revert A6
    generalize upd H5 pn (.lst ((z :: nearW z).map V.str)) = H6
    intro A6
    clear A5 A4 A3
    walk_at "rd"
    refine ⟨.inl ⟨rfl, _, A6.lst 2 rfl⟩, ?_⟩
    walk_at "rd"
    refine ⟨pn, rfl, ⟨_, A6.lst 3 rfl⟩, fun D2 hD2 => ?_⟩
    refine lc_it (walk_list (xs := (z :: nearW z).map V.str)) (fun j H' => At [d, gl] H H' [(d, .dK (stK gl cl r3 t3)), (gl, .lst (gs3.map V.int)), (pf, .lst (fo.map V.str)), (pn, .lst ((z :: nearW z).map V.str)), (D2, .lst ((((z :: nearW z).take j).filter fun y => !decide (y ∈ fo)).map V.str))] []) (A6.snoc hD2 _) (fun j H' _ A => A.lst 3 rfl) ?_ ?_
    · rintro j x H7 H7' hj A7 ⟨rfl, hx⟩
      obtain ⟨y, hy, rfl⟩ : ∃ y, (z :: nearW z)[j]? = some y ∧ x = .str y := by
        rw [List.getElem?_map] at hx
        obtain ⟨y, hy, e⟩ := Option.map_eq_some_iff.mp hx
        exact ⟨y, hy, e.symm⟩
      have ets : (z :: nearW z).take (j + 1) = (z :: nearW z).take j ++ [y] := by rw [List.take_add_one, hy]; rfl
      refine ⟨rfl, ?_⟩
      walk_at "rd"
      refine ⟨pf, _, rfl, .inl (A7.lst 2 rfl), rfl, flat_strs17 _, rd_bl ?_⟩
      show if (!inV (.str y) (fo.map V.str)) = true then _ else _
      rw [inV_strs17, ets, List.filter_append, List.map_append]
      refine rd_iteN (fun h => ?_) (fun h => ?_)
      · walk_at "rd"
        rw [List.filter_cons_of_pos (by rw [decide_eq_false h]; rfl), List.filter_nil]
        refine ⟨_, A7.get 4 rfl, ?_, A7.set 4 rfl _⟩
        rw [List.length_map]
        have := List.length_filter_le (fun y => !decide (y ∈ fo)) ((z :: nearW z).take j)
        rw [List.length_take, List.length_cons] at this
        exact szn' (by omega)
      · rw [List.filter_cons_of_neg (by rw [decide_eq_true h]; decide), List.filter_nil, List.map_nil, List.append_nil]
        exact A7
    intro H7 A7
    rw [List.length_map, List.take_length] at A7
    have hfo : fo.length ≤ 20 := by omega
    obtain ⟨y, rest, hyr⟩ : ∃ y rest, (z :: nearW z).filter (fun y => !decide (y ∈ fo)) = y :: rest := by
      cases hf : (z :: nearW z).filter (fun y => !decide (y ∈ fo)) with
      | nil => exact absurd hf (near_free hfo)
      | cons y rest => exact ⟨y, rest, rfl⟩
    have hyn : nameOk y = true := by
      have hm : y ∈ z :: nearW z := (List.mem_filter.mp (by rw [hyr]; exact List.mem_cons_self : y ∈ (z :: nearW z).filter (fun y => !decide (y ∈ fo)))).1
      rcases List.mem_cons.mp hm with e | hm
      · rw [e]; exact hzn
      · exact near_ok hzn y hm
    rw [hyr] at A7
    walk_at "rd"
    refine rd_ixL (A7.lst 4 rfl) (atI_nat (j := 0) rfl) ?_
    walk_at "rd"
    refine ⟨pf, _, _, rfl, rfl, A7.get 2 rfl, by rw [List.length_map]; exact szn' (by omega), ?_⟩
    have A8 := A7.set 2 rfl (.lst (fo.map V.str ++ [.str y]))
    refine ⟨r3, t3, gs3, fo ++ [y], _, _, _, rfl, l3, pt3, by omega, by rw [List.length_append, hl]; rfl, ?_, ?_⟩
    · intro v hv
      rcases List.mem_append.mp hv with hv | hv
      · exact hz v hv
      · rw [List.mem_singleton] at hv; rw [hv]; exact hyn
    · rw [List.map_append]
      exact A8.sel (by simp) (by walk_at "sub")
  · rintro σ H2 ⟨r2, t2, gs2, fo, y2, y3, y4, rfl, l2, p2, p3, hl, hz, A2⟩
    have hfl : 0 < fo.length ∧ fo.length ≤ 5 := by omega
    walk_at "rd"
    refine ⟨.inl ⟨rfl, _, A2.lst 2 rfl⟩, ?_⟩
    walk_at "rd"
    refine ⟨pf, fo, rfl, A2.lst 2 rfl, hfl.1, fun mn hmn _ => ?_⟩
    have hjl : fo.findIdx (fun y => decide (y = mn)) < fo.length := List.findIdx_lt_length_of_exists ⟨mn, hmn, decide_eq_true rfl⟩
    have hjat := List.findIdx_getElem (xs := fo) (p := fun y => decide (y = mn)) (w := hjl)
    have hjb : ∀ m, m < fo.findIdx (fun y => decide (y = mn)) → ∀ y, fo[m]? = some y → y ≠ mn := fun m hm y hy e => by
      have := List.not_of_lt_findIdx hm
      obtain ⟨hml, hy⟩ := List.getElem?_eq_some_iff.mp hy
      rw [hy, e] at this
      simp at this
    generalize fo.findIdx (fun y => decide (y = mn)) = j at *
    refine ⟨pf, _, .str mn, j, .str mn, rfl, rfl, A2.lst 2 rfl, rfl, flat_strs17 _, ?_, by rw [eqV_str17, decide_eq_true rfl], ?_, ?_⟩
    · rw [List.getElem?_map, List.getElem?_eq_getElem hjl, of_decide_eq_true hjat]; rfl
    · intro m z' hm hz'
      rw [List.getElem?_map] at hz'
      obtain ⟨y, hy, rfl⟩ := Option.map_eq_some_iff.mp hz'
      rw [eqV_str17, decide_eq_false (hjb m hm y hy)]
    walk_at "rd"
    obtain ⟨u1, e1, m1, k1⟩ := cut_strs fo (some (j : Int)) none
    obtain ⟨u2, e2, m2, k2⟩ := cut_strs fo none (some (j : Int))
    refine rd_slL A2 (A2.lst 2 rfl) fun q1 H3 A3 => ?_
    rw [e1] at A3
    walk_at "rd"
    refine rd_slL A3 (A3.lst 2 rfl) fun q2 H4 A4 => ?_
    rw [e2] at A4
    refine ⟨q1, q2, _, _, rfl, rfl, A4.get 3 rfl, A4.get 4 rfl, szn (by simp only [List.length_map]; omega), fun q3 hq3 => ?_⟩
    rw [← List.map_append]
    have A5 := A4.snoc hq3 (.lst ((u1 ++ u2).map V.str))
    revert A5
    generalize upd H4 q3 (.lst ((u1 ++ u2).map V.str)) = H5
    intro A5
    walk_at "rd"
    refine ⟨q3, _, rfl, .inl ⟨A5.lst 5 rfl, fun q4 hq4 => ?_⟩⟩
    have A6 := A5.snoc hq4 (.tup ((u1 ++ u2).map V.str))
    refine q (u1 ++ u2) q4 r2 t2 gs2 _ (by rw [List.length_append]; omega) (fun v hv => ?_) (by omega) ⟨A6.get 0 rfl, A6.get 1 rfl, l2, p2, A6.keep⟩ (A6.new0 6 rfl ?_) (A6.get 6 rfl)
    · rcases List.mem_append.mp hv with hv | hv
      · exact hz v (m1 v hv)
      · exact hz v (m2 v hv)
    · rw [List.mem_cons, List.mem_singleton]
      exact fun h => h.elim (fun h => A6.ne 6 0 rfl rfl (by decide) h) fun h => A6.ne 6 1 rfl rfl (by decide) h
end
end Nn

namespace Nn
open PySem PySem.Spec PyProof.Rows L2
local macro_rules | `(tactic| walk_at "rd1") => `(tactic| first
  | with_reducible refine' rd_c ?_
  | ((with_reducible refine' rd_var ?h ?_); (case h => rfl))
  | with_reducible refine' rd_op ?_
  | with_reducible refine' rd_I0 ?_
  | with_reducible refine' rd_seq ?_
  | ((with_reducible refine' rd_mod ?h ?_); (case h => decide))
  | ((with_reducible refine' rd_fdiv ?h ?_); (case h => exact ⟨by decide, by decide⟩))
  | ((with_reducible refine' rd_pow ?h ?_); (case h => exact ⟨by decide, by decide, by decide⟩))
  | ((with_reducible refine' rd_mul ?h ?_); (case h => first | exact Or.inl (by decide) | exact Or.inr (by decide)))
  | with_reducible refine' rd_set ?_
  | with_reducible refine' rd_asg ?_
  | with_reducible refine' rd_cons ?_
  | with_reducible refine' rd_nil ?_
  | with_reducible refine' rd_call ?_
  | with_reducible refine' rd_cb ?_
  | with_reducible refine' rd_if ?_
  | with_reducible refine' rd_test ?_
  | with_reducible refine' rd_B ?_
  | with_reducible refine' rd_bl ?_
  | ((with_reducible refine' rd_eq ?h ?_); (case h => rfl))
  | ((with_reducible refine' rd_ne ?h ?_); (case h => rfl))
  | with_reducible refine' rd_not ?_
  | with_reducible refine' rd_and ?_
  | with_reducible refine' rd_or ?_
  | with_reducible refine' rd_notV ?_
  | with_reducible refine' rd_chain ?_
  | with_reducible refine' rd_ret ?_
  | with_reducible refine' rd_drop ?_
  | with_reducible refine' rd_next' ?_
  | with_reducible refine' rd_lst ?_
  | with_reducible refine' rd_tup ?_
  | with_reducible refine' rd_lc ?_
  | with_reducible refine' rd_rng1 ?_
  | with_reducible refine' rd_istr ?_
  | with_reducible refine' rd_ilst ?_
  | with_reducible refine' rd_ienum ?_
  | with_reducible refine' rd_bm0 ?_
  | with_reducible refine' rd_bm ?_
  | with_reducible refine' rd_m1 ?_
  | with_reducible refine' rd_sl ?_
  | with_reducible refine' rd_po0 ?_
  | with_reducible refine' rd_po1 ?_
  | with_reducible refine' rd_in ?_
  | with_reducible refine' rd_sub ?_
  | with_reducible refine' rd_ifE ?_
  | with_reducible refine' rd_un ?_
  | with_reducible refine' rd_U ?_
  | with_reducible refine' rd_brk ?_
  | with_reducible refine' rd_cont ?_
  | with_reducible refine' rd_yes ?_
  | with_reducible refine' rd_T ?_
  | with_reducible refine' rd_F ?_
  | with_reducible refine' rd_nT ?_
  | with_reducible refine' rd_nF ?_
  | with_reducible refine' rd_dni ?_
  | with_reducible refine' rd_di ?_
  | with_reducible refine' rd_dget ?_
  | with_reducible refine' rd_dget1 ?_
  | with_reducible refine' rd_dget2 ?_
  | with_reducible refine' rd_dget2N ?_
  | with_reducible refine' rd_dpop1 ?_
  | with_reducible refine' rd_ddel ?_
  | with_reducible refine' rd_mkN ?_
  | with_reducible refine' rd_mkV ?_
  | with_reducible refine' rd_dput ?_
  | with_reducible refine' rd_dnew ?_
  | with_reducible refine' rd_ikeys ?_
  | with_reducible refine' rd_gn ?_
  | with_reducible refine' rd_for ?_
  | with_reducible refine' rd_make ?_
  | with_reducible refine' rd_meth ?_
  | with_reducible refine' rd_fld ?_
  | with_reducible refine' rd_sfld ?_
  | with_reducible refine' rd_dc ?_
  | with_reducible refine' rd_items ?_
  | with_reducible refine' rd_sadd ?_
  | with_reducible refine' rd_ivals ?_
  | with_reducible refine' rd_callS ?_
  | with_reducible refine' rd_makeS ?_
  | with_reducible refine' rd_methS ?_
  | with_reducible refine' rd_fldH ?_
  | with_reducible refine' rd_mkO ?_)
local macro_rules | `(tactic| walk_at "sub") => `(tactic| repeat' (first | exact List.nil_sublist _ | exact List.Sublist.refl _ | apply List.Sublist.cons₂ | apply List.Sublist.cons))
local macro_rules | `(tactic| walk_at "rd") => `(tactic| repeat walk_at "rd1")

/-! ### a refusal of each class -/
structure Lot where
  (p pm pd pr e0 e1 e2 e3 e4 e5 e6 d1 d2 d3 d4 d5 d6 : Addr)
  (n0 n1 n2 n3 : Str)
  l : List Str
  row : Int
structure Lot.Ok (x : Lot) : Prop where
  n0 : nameOk x.n0 = true
  n1 : nameOk x.n1 = true
  n2 : nameOk x.n2 = true
  n3 : nameOk x.n3 = true
  len : x.l.length ≤ 10
  nl : ∀ z ∈ x.l, nameOk z = true
  r0 : 0 ≤ x.row
  r1 : x.row < 1000000000
def Lot.errs (x : Lot) : List V := [.ref x.e0, .ref x.e1, .ref x.e2, .ref x.e3, .ref x.e4, .ref x.e5, .ref x.e6]
def Lot.due (x : Lot) : List V := [.non, .str x.n0, .str x.n1, .str x.n2, .str x.n3, .ref x.pr, .int x.row]
/-- all that stands of it -/
def Lot.T (Cs : ErrCs) (x : Lot) : List (Addr × HO) := [(x.p, .tup [.ref x.pm, .ref x.pd]), (x.pm, .lst x.errs), (x.pd, .lst x.due), (x.pr, .tup (x.l.map V.str)),
  (x.e0, ExH (.ref Cs.name) none x.e0), (x.e1, ExH (.ref Cs.twice) (some x.d1) x.e1), (x.d1, .xd [("name", .str x.n0)]), (x.e2, ExH (.ref Cs.missing) (some x.d2) x.e2), (x.d2, .xd [("name", .str x.n1)]),
  (x.e3, ExH (.ref Cs.held) (some x.d3) x.e3), (x.d3, .xd [("name", .str x.n2)]), (x.e4, ExH (.ref Cs.letgo) (some x.d4) x.e4), (x.d4, .xd [("name", .str x.n3)]),
  (x.e5, ExH (.ref Cs.spare) (some x.d5) x.e5), (x.d5, .xd [("ring", .ref x.pr)]), (x.e6, ExH (.ref Cs.row) (some x.d6) x.e6), (x.d6, .xd [("row", .int x.row)])]
theorem errH {H : Hp} {a d C : Addr} {fs : List (Str × V)} (hne : d ≠ a) : upd (upd (upd (upd (upd H a (exo a C none)) d (exd d fs)) a (exo a C (some d))) a (ExH (.ref C) (some d) a)) d (.xd fs) = upd (upd H a (ExH (.ref C) (some d) a)) d (.xd fs) := by
  funext b
  by_cases h1 : b = d
  · rw [h1, upd_same, upd_same]
  · rw [upd_ne h1, upd_ne h1]
    by_cases h2 : b = a
    · rw [h2, upd_same, upd_same]
    · rw [upd_ne h2, upd_ne h2, upd_ne h2, upd_ne h1, upd_ne h2]
/-- the end of X(y) as a value -/
theorem rd_errV2 {H : Hp} {C : Addr} {fld : Str} {ok : V → Hp → Prop} {y : V} {E : XK} {G : Addr → Addr → List (Str × V) → Hp → Prop} (ho : ∀ a, H a = none → ok y (upd H a (exo a C none)))
    (k : ∀ a d, H a = none → H d = none → d ≠ a → G a d [(fld, y)] (upd (upd (upd H a (exo a C none)) d (exd d [(fld, y)])) a (exo a C (some d)))) :
    [y].length ≤ 1000 ∧ ∀ a, H a = none → spErr C fld ok (.ref a :: ([y] ++ [])) (upd H a (exo a C none)) (fun v H2 => v = .non ∧ ∃ (d : Addr) (fs : List (Str × V)), H2 a = some (exo a C (some d)) ∧ H2 d = some (exd d fs) ∧ d ≠ a ∧ G a d fs H2) E := by
  refine ⟨(show 1 ≤ 1000 by decide), fun a ha => ⟨a, y, rfl, ho a ha, upd_same, fun dx hdx hne => ⟨rfl, dx, [(fld, y)], upd_same, ?_, hne, ?_⟩⟩⟩
  · rw [upd_ne hne, upd_same]
  · have hd : H dx = none := by rw [upd_ne hne] at hdx; exact hdx
    exact k a dx ha hd hne
theorem rd_par17 {i j : Nat} {ta : TA} {D : Ends} {σ : L2.St} {H : Hp} (k : ta σ H fun vs H1 => ∃ v w, vs = [v, w] ∧ D.nx ((σ.set i (some v)).set j (some w)) H1) : tPar i j ta D σ H := k
section
variable {P : Program} {w : World} {K : PySem.W.Frag} {mg : Str → Option Value} {base : Heap}
structure RMade (P : Program) (w : World) (K : PySem.W.Frag) (mg : Str → Option Value) (base : Heap) (Cs : ErrCs) : Prop where
  NoName : NoNameC K mg "NoName" Cs.name
  Twice : ErrMk P w K mg base 1 "Twice" Cs.twice "name" okT
  Missing : ErrMk P w K mg base 1 "Missing" Cs.missing "name" okT
  Held : ErrMk P w K mg base 1 "Held" Cs.held "name" okT
  LetGo : ErrMk P w K mg base 1 "LetGo" Cs.letgo "name" okT
  NoSpare : ErrMk P w K mg base 1 "NoSpare" Cs.spare "ring" (okR K)
  NoRow : ErrMk P w K mg base 1 "NoRow" Cs.row "row" okJ
structure CMade (P : Program) (w : World) (K : PySem.W.Frag) (mg : Str → Option Value) (base : Heap) : Prop where
  _law_take : Cl P w K mg base 2 "_law_take" spTake
  _law_pick : Cl P w K mg base 3 "_law_pick" (spPick K)
  _law_word : Cl P w K mg base 4 "_law_word" spWord
  _law_ring : Cl P w K mg base 5 "_law_ring" spRing17
def spMade (Cs : ErrCs) : Sp := fun vs H Q _ => ∃ (d gl cl : Addr) (r t : Int) (gs cs : List Int), vs = [.ref d] ∧ StIn H d gl cl r t gs cs ∧ t ≤ 50000 ∧ ∀ (x : Lot) r' t' gs' H', x.Ok → t' ≤ t + 100 → StOut H H' d gl cl r' t' gs' → (∀ e ∈ x.T Cs, H e.1 = none ∧ H' e.1 = some e.2) → Q (.ref x.p) H'
theorem ok__law_made {f : Addr} {fd : FuncData} (F : Fun K "_law_made" "_law_made" s_law_made f fd) (B : Blt mg) {Cs : ErrCs} (R : RMade P w K mg base Cs) (C : CMade P w K mg base) : FnOk P w K mg base CX0 6 f fd P_law_made (spMade Cs) := by
  refine F.ok sc_law_made (fun vs H Q E h => by obtain ⟨d, gl, cl, r, t, gs, cs, rfl, _⟩ := h; rfl) (fun cdv A outer s0 H vs Q E hr h => ?_)
  obtain ⟨d, gl, cl, r, t, gs, cs, rfl, S, ht, q⟩ := h
  refine ⟨_, pss_cons (ps_par (i := 1) (j := 2) rfl sc_law_made.nd rfl rfl (by decide) rfl rfl (pa_cons (pe_lc (own := [("_law_turn", 6)]) rfl sc_law_made.nd (pi_range1 (by rfl) B.range (pa_cons pe_int pa_nil)) (blkOk_by (N := N_law_made) (sc := defScope s_law_made) (by decide +kernel)) (fun _ _ _ _ _ => (pg_name (i := 6) sc_law_made.nd rfl (Or.inl rfl))) (fun _ _ _ _ _ => pts_nil) (fun _ _ _ _ _ => (pe_cl C._law_word hr (by omega) (by rfl) (pa_cons (pv 0) pa_nil)))) (pa_cons (pe_cl C._law_ring hr (by omega) (by rfl) (pa_cons (pv 0) pa_nil)) pa_nil)) rfl)
  (pss_cons (ps_par (i := 3) (j := 4) rfl sc_law_made.nd rfl rfl (by decide) rfl rfl (pa_cons (pe_cl C._law_pick hr (by omega) (by rfl) (pa_cons (pv 0) (pa_cons (pe_lst (pa_cons pe_int (pa_cons pe_int (pa_cons (pe_cl C._law_take hr (by omega) (by rfl) (pa_cons (pv 0) (pa_cons (pe_op op_pow pe_int pe_int) pa_nil))) pa_nil)))) pa_nil))) (pa_cons (pe_cl C._law_pick hr (by omega) (by rfl) (pa_cons (pv 0) (pa_cons (pe_lst (pa_cons pe_str (pa_cons pe_str (pa_cons pe_str (pa_cons (pe_ix ix_list (pv 1) pe_int (fun _ _ => rfl)) pa_nil))))) pa_nil))) pa_nil)) rfl)
  (pss_cons (ps_set (i := 5) sc_law_made.nd rfl (Or.inl rfl) (pe_lst (pa_cons (pe_nonameV R.NoName (by rfl) (pv 4)) (pa_cons (pe_errV R.Twice hr (by omega) (by rfl) (pe_ix ix_list (pv 1) pe_int (fun _ _ => rfl))) (pa_cons (pe_errV R.Missing hr (by omega) (by rfl) (pe_ix ix_list (pv 1) pe_int (fun _ _ => rfl))) (pa_cons (pe_errV R.Held hr (by omega) (by rfl) (pe_ix ix_list (pv 1) pe_int (fun _ _ => rfl))) (pa_cons (pe_errV R.LetGo hr (by omega) (by rfl) (pe_ix ix_list (pv 1) pe_int (fun _ _ => rfl))) pa_nil)))))))
  (pss_one (ps_ret (pe_tup (pa_cons (pe_op op_cat (pv 5) (pe_lst (pa_cons (pe_errV R.NoSpare hr (by omega) (by rfl) (pv 2)) (pa_cons (pe_errV R.NoRow hr (by omega) (by rfl) (pv 3)) pa_nil)))) (pa_cons (pe_op op_cat (pe_op op_cat (pe_lst (pa_cons pe_non pa_nil)) (pv 1)) (pe_lst (pa_cons (pv 2) (pa_cons (pv 3) pa_nil)))) pa_nil))))))), ?_⟩
  dsimp only [cxOf, Cx.nox]
  have A := S.at
  walk_at "rd"
  refine rd_par17 ?_
  walk_at "rd"
  refine ⟨_, rfl, by decide, by decide, fun D hD => ?_⟩
  refine lc_range (n := 4) (fun i H' => ∃ (r2 t2 : Int) (gs2 : List Int) (ws : List Str), gs2.length ≤ 63 ∧ 0 ≤ t2 ∧ t2 ≤ t + 9 * i ∧ ws.length = i ∧ (∀ z ∈ ws, nameOk z = true) ∧ At [d, gl] H H' [(d, .dK (stK gl cl r2 t2)), (gl, .lst (gs2.map V.int)), (D, .lst (ws.map V.str))] [])
    ⟨r, t, gs, [], S.len, S.t0, by omega, rfl, by simp, A.snoc hD _⟩ ?_ ?_
  · rintro i H5 hi ⟨r2, t2, gs2, ws, l2, p2, p3, hl, hz, A5⟩
    refine ⟨rfl, rd_yes (rd_T ?_)⟩
    walk_at "rd"
    refine ⟨d, gl, cl, r2, t2, gs2, cs, rfl, ⟨A5.get 0 rfl, A5.get 1 rfl, S.cells A5, S.ne, l2, p2⟩, by omega, fun z hzn r3 t3 gs3 H6 h3 So => ?_⟩
    have A6 := So.at A5 0 1 rfl rfl (by decide)
    refine ⟨_, A6.get 2 rfl, by rw [List.length_map]; exact szn' (by omega), r3, t3, gs3, ws ++ [z], So.len, So.t0, by omega, by rw [List.length_append, hl]; rfl, ?_, ?_⟩
    · intro v hv
      rcases List.mem_append.mp hv with hv | hv
      · exact hz v hv
      · rw [List.mem_singleton] at hv; rw [hv]; exact hzn
    · rw [List.map_append]
      exact A6.set 2 rfl (.lst (ws.map V.str ++ [.str z]))
  rintro H1 ⟨r1, t1, gs1, ws, l1, p1, h1, hl, hz, A1⟩
  obtain ⟨n0, n1, n2, n3, rfl⟩ : ∃ n0 n1 n2 n3, ws = [n0, n1, n2, n3] := by
    match ws, hl with
    | [n0, n1, n2, n3], _ => exact ⟨n0, n1, n2, n3, rfl⟩
  have o0 := hz n0 (by simp)
  have o1 := hz n1 (by simp)
  have o2 := hz n2 (by simp)
  have o3 := hz n3 (by simp)
  clear A
  walk_at "rd"
  refine ⟨d, gl, cl, r1, t1, gs1, cs, rfl, ⟨A1.get 0 rfl, A1.get 1 rfl, S.cells A1, S.ne, l1, p1⟩, by omega, fun l pr r2 t2 gs2 H2 hll hln h2 So hpr hpr' => ?_⟩
  have A2 : At [d, gl] H H2 [(d, .dK (stK gl cl r2 t2)), (gl, .lst (gs2.map V.int)), (D, .lst ([n0, n1, n2, n3].map V.str))] [(pr, .tup (l.map V.str))] := A1.addT (So.at A1 0 1 rfl rfl (by decide)) rfl [(pr, .tup (l.map V.str))] (fun x hx => by
    rw [List.mem_singleton] at hx
    subst hx
    exact ⟨hpr, hpr'⟩)
  have l2 := So.len
  have p2 := So.t0
  clear A1 So
  walk_at "rd"
  refine ⟨_, _, rfl, ?_⟩
  walk_at "rd"
  refine rd_par17 ?_
  walk_at "rd"
  refine ⟨d, gl, cl, r2, t2, _, gs2, cs, rfl, ⟨A2.get 0 rfl, A2.get 1 rfl, S.cells A2, S.ne, l2, p2⟩, by omega, by decide, by decide, fun k r3 t3 gs3 H3 k0 k1 h3 So => ?_⟩
  have A3 : At [d, gl] H H3 [(d, .dK (stK gl cl r3 t3)), (gl, .lst (gs3.map V.int)), (D, .lst ([n0, n1, n2, n3].map V.str))] [(pr, .tup (l.map V.str))] := So.at A2 0 1 rfl rfl (by decide)
  have l3 := So.len
  have p3 := So.t0
  clear A2 So
  have k1 : k < 1000000000 := k1
  walk_at "rd"
  refine ⟨szl rfl, fun q1 hq1 => ?_⟩
  have A4 := A3.snoc hq1 (.lst [.int 0, .int 1, .int k])
  revert A4
  generalize upd H3 q1 (.lst [.int 0, .int 1, .int k]) = H4
  intro A4
  walk_at "rd"
  refine ⟨d, gl, cl, q1, r3, t3, gs3, cs, _, rfl, ⟨A4.get 0 rfl, A4.get 1 rfl, S.cells A4, S.ne, l3, p3⟩, by omega, A4.lst 3 rfl, A4.ne 3 0 rfl rfl (by decide), A4.ne 3 1 rfl rfl (by decide), by simp, Nat.le_of_ble_eq_true rfl, fun v hv r5 t5 gs5 H5 h5 So => ?_⟩
  obtain ⟨row, rfl, w0, w1⟩ : ∃ row : Int, v = .int row ∧ 0 ≤ row ∧ row < 1000000000 := by
    simp only [List.mem_cons, List.not_mem_nil, or_false] at hv
    rcases hv with rfl | rfl | rfl
    · exact ⟨0, rfl, by decide, by decide⟩
    · exact ⟨1, rfl, by decide, by decide⟩
    · exact ⟨k, rfl, k0, k1⟩
  have A5 : At [d, gl] H H5 [(d, .dK (stK gl cl r5 t5)), (gl, .lst (gs5.map V.int)), (D, .lst ([n0, n1, n2, n3].map V.str))] [(pr, .tup (l.map V.str))] := (So.at A4 0 1 rfl rfl (by decide)).sel (by simp) (by walk_at "sub")
  have l5 := So.len
  have p5 := So.t0
  clear A4 A3 So
  walk_at "rd"
  refine rd_ixL (A5.lst 2 rfl) (atI_nat (j := 0) rfl) ?_
  walk_at "rd"
  refine ⟨szl rfl, fun q2 hq2 => ?_⟩
  have A6 := A5.snoc hq2 (.lst [.str "", .str "A", .str "no name", .str n0])
  revert A6
  generalize upd H5 q2 (.lst [.str "", .str "A", .str "no name", .str n0]) = H6
  intro A6
  walk_at "rd"
  refine ⟨d, gl, cl, q2, r5, t5, gs5, cs, _, rfl, ⟨A6.get 0 rfl, A6.get 1 rfl, S.cells A6, S.ne, l5, p5⟩, by omega, A6.lst 3 rfl, A6.ne 3 0 rfl rfl (by decide), A6.ne 3 1 rfl rfl (by decide), by simp, Nat.le_of_ble_eq_true rfl, fun v hv r7 t7 gs7 H7 h7 So => ?_⟩
  obtain ⟨tx, rfl⟩ : ∃ tx : Str, v = .str tx := by
    simp only [List.mem_cons, List.not_mem_nil, or_false] at hv
    rcases hv with rfl | rfl | rfl | rfl
    · exact ⟨_, rfl⟩
    · exact ⟨_, rfl⟩
    · exact ⟨_, rfl⟩
    · exact ⟨_, rfl⟩
  have A7 : At [d, gl] H H7 [(d, .dK (stK gl cl r7 t7)), (gl, .lst (gs7.map V.int)), (D, .lst ([n0, n1, n2, n3].map V.str))] [(pr, .tup (l.map V.str))] := (So.at A6 0 1 rfl rfl (by decide)).sel (by simp) (by walk_at "sub")
  have l7 := So.len
  have p7 := So.t0
  clear A6 A5 So
  walk_at "rd"
  refine ⟨_, _, rfl, ?_⟩
  walk_at "rd"
  intro e0 he0
  refine ⟨e0, H7, rfl, he0, rfl, ?_⟩
  have A8 := A7.snocT he0 (ExH (.ref Cs.name) none e0)
  revert A8
  generalize upd H7 e0 (ExH (.ref Cs.name) none e0) = H8
  intro A8
  clear A7
  walk_at "rd"
  refine rd_ixL (A8.lst 2 rfl) (atI_nat (j := 0) rfl) ?_
  refine rd_errV2 (fun a ha => ⟨n0, rfl, by have := nameOk_len o0; omega⟩) fun e1 d1 he1 hd1 hne1 => ?_
  rw [errH hne1]
  have A9 := (A8.snocT he1 (ExH (.ref Cs.twice) (some d1) e1)).snocT (p := d1) (by rw [upd_ne hne1]; exact hd1) (.xd [("name", .str n0)])
  revert A9
  generalize upd (upd H8 e1 (ExH (.ref Cs.twice) (some d1) e1)) d1 (.xd [("name", .str n0)]) = H9
  intro A9
  clear A8
  walk_at "rd"
  refine rd_ixL (A9.lst 2 rfl) (atI_nat (j := 1) rfl) ?_
  refine rd_errV2 (fun a ha => ⟨n1, rfl, by have := nameOk_len o1; omega⟩) fun e2 d2 he2 hd2 hne2 => ?_
  rw [errH hne2]
  have A10 := (A9.snocT he2 (ExH (.ref Cs.missing) (some d2) e2)).snocT (p := d2) (by rw [upd_ne hne2]; exact hd2) (.xd [("name", .str n1)])
  revert A10
  generalize upd (upd H9 e2 (ExH (.ref Cs.missing) (some d2) e2)) d2 (.xd [("name", .str n1)]) = H10
  intro A10
  clear A9
  walk_at "rd"
  refine rd_ixL (A10.lst 2 rfl) (atI_nat (j := 2) rfl) ?_
  refine rd_errV2 (fun a ha => ⟨n2, rfl, by have := nameOk_len o2; omega⟩) fun e3 d3 he3 hd3 hne3 => ?_
  rw [errH hne3]
  have A11 := (A10.snocT he3 (ExH (.ref Cs.held) (some d3) e3)).snocT (p := d3) (by rw [upd_ne hne3]; exact hd3) (.xd [("name", .str n2)])
  revert A11
  generalize upd (upd H10 e3 (ExH (.ref Cs.held) (some d3) e3)) d3 (.xd [("name", .str n2)]) = H11
  intro A11
  clear A10
  walk_at "rd"
  refine rd_ixL (A11.lst 2 rfl) (atI_nat (j := 3) rfl) ?_
  refine rd_errV2 (fun a ha => ⟨n3, rfl, by have := nameOk_len o3; omega⟩) fun e4 d4 he4 hd4 hne4 => ?_
  rw [errH hne4]
  have A12 := (A11.snocT he4 (ExH (.ref Cs.letgo) (some d4) e4)).snocT (p := d4) (by rw [upd_ne hne4]; exact hd4) (.xd [("name", .str n3)])
  revert A12
  generalize upd (upd H11 e4 (ExH (.ref Cs.letgo) (some d4) e4)) d4 (.xd [("name", .str n3)]) = H12
  intro A12
  clear A11
  walk_at "rd"
  refine ⟨szl rfl, fun q3 hq3 => ?_⟩
  have A13 := A12.snoc hq3 (.lst [.ref e0, .ref e1, .ref e2, .ref e3, .ref e4])
  revert A13
  generalize upd H12 q3 (.lst [.ref e0, .ref e1, .ref e2, .ref e3, .ref e4]) = H13
  intro A13
  clear A12
  walk_at "rd"
  have tp : ∀ {G : Hp} {L T : List (Addr × HO)}, At [d, gl] H G L T → (pr, HO.tup (l.map V.str)) ∈ T → G pr = some (.tup (l.map V.str)) := fun A h => A.tm _ h
  have hcost : fmtCost l ≤ 840 := by
    unfold fmtCost
    have : ∀ u : List Str, (∀ y ∈ u, nameOk y = true) → (u.map fun y => 10 * y.length + 4).sum ≤ u.length * 84 := by
      intro u
      induction u with
      | nil => intro _; exact Nat.le_refl _
      | cons y u ih =>
        intro h
        have h1 := nameOk_len (h y List.mem_cons_self)
        have h2 := ih fun z hz => h z (List.mem_cons_of_mem _ hz)
        rw [List.map_cons, List.sum_cons, List.length_cons, Nat.succ_mul]
        omega
    have := this l hln
    omega
  have htm : H13 pr = some (.tup (l.map V.str)) := A13.tm (pr, .tup (l.map V.str)) (by simp)
  refine rd_errV2 (fun a ha => ⟨pr, l, rfl, .inl (.inl (by rw [upd_ne (ne_of_none htm ha)]; exact htm)), fun y hy => short_cps (short_name (hln y hy)), by omega⟩) fun e5 d5 he5 hd5 hne5 => ?_
  rw [errH hne5]
  have A14 := (A13.snocT he5 (ExH (.ref Cs.spare) (some d5) e5)).snocT (p := d5) (by rw [upd_ne hne5]; exact hd5) (.xd [("ring", .ref pr)])
  revert A14
  generalize upd (upd H13 e5 (ExH (.ref Cs.spare) (some d5) e5)) d5 (.xd [("ring", .ref pr)]) = H14
  intro A14
  clear A13
  walk_at "rd"
  refine rd_errV2 (fun a ha => ⟨row, rfl, w0, by omega⟩) fun e6 d6 he6 hd6 hne6 => ?_
  rw [errH hne6]
  have A15 := (A14.snocT he6 (ExH (.ref Cs.row) (some d6) e6)).snocT (p := d6) (by rw [upd_ne hne6]; exact hd6) (.xd [("row", .int row)])
  revert A15
  generalize upd (upd H14 e6 (ExH (.ref Cs.row) (some d6) e6)) d6 (.xd [("row", .int row)]) = H15
  intro A15
  clear A14
  walk_at "rd"
  refine ⟨szl rfl, fun q4 hq4 => ?_⟩
  have A16 := A15.snoc hq4 (.lst [.ref e5, .ref e6])
  revert A16
  generalize upd H15 q4 (.lst [.ref e5, .ref e6]) = H16
  intro A16
  clear A15
  refine ⟨q3, q4, _, _, rfl, rfl, A16.get 3 rfl, A16.get 4 rfl, szl rfl, fun pm hpm => ?_⟩
  have A17 := A16.snocT hpm (.lst [.ref e0, .ref e1, .ref e2, .ref e3, .ref e4, .ref e5, .ref e6])
  revert A17
  show At _ _ (upd H16 pm (.lst ([.ref e0, .ref e1, .ref e2, .ref e3, .ref e4] ++ [.ref e5, .ref e6]))) _ _ → _
  generalize upd H16 pm (.lst ([.ref e0, .ref e1, .ref e2, .ref e3, .ref e4] ++ [.ref e5, .ref e6])) = H17
  intro A17
  clear A16
  walk_at "rd"
  refine ⟨szl rfl, fun q5 hq5 => ?_⟩
  have A18 := A17.snoc hq5 (.lst [.non])
  revert A18
  generalize upd H17 q5 (.lst [.non]) = H18
  intro A18
  clear A17
  walk_at "rd"
  refine ⟨q5, D, _, _, rfl, rfl, A18.get 5 rfl, A18.get 2 rfl, szl rfl, fun q6 hq6 => ?_⟩
  have A19 := A18.snoc hq6 (.lst ([.non] ++ [n0, n1, n2, n3].map V.str))
  revert A19
  generalize upd H18 q6 (.lst ([.non] ++ [n0, n1, n2, n3].map V.str)) = H19
  intro A19
  clear A18
  walk_at "rd"
  refine ⟨szl rfl, fun q7 hq7 => ?_⟩
  have A20 := A19.snoc hq7 (.lst [.ref pr, .int row])
  revert A20
  generalize upd H19 q7 (.lst [.ref pr, .int row]) = H20
  intro A20
  clear A19
  refine ⟨q6, q7, _, _, rfl, rfl, A20.get 6 rfl, A20.get 7 rfl, szl rfl, fun pd hpd => ?_⟩
  have A21 := A20.snocT hpd (.lst ([.non] ++ [n0, n1, n2, n3].map V.str ++ [.ref pr, .int row]))
  revert A21
  generalize upd H20 pd (.lst ([.non] ++ [n0, n1, n2, n3].map V.str ++ [.ref pr, .int row])) = H21
  intro A21
  clear A20
  walk_at "rd"
  refine ⟨szl rfl, fun p hp => ?_⟩
  have A22 := A21.snocT hp (.tup [.ref pm, .ref pd])
  revert A22
  generalize upd H21 p (.tup [.ref pm, .ref pd]) = H22
  intro A22
  clear A21
  refine q ⟨p, pm, pd, pr, e0, e1, e2, e3, e4, e5, e6, d1, d2, d3, d4, d5, d6, n0, n1, n2, n3, l, row⟩ r7 t7 gs7 H22 ⟨o0, o1, o2, o3, hll, hln, w0, w1⟩ (by omega) ⟨A22.get 0 rfl, A22.get 1 rfl, l7, p7, A22.keep⟩ fun x hx => ?_
  simp only [Lot.T, List.mem_cons, List.not_mem_nil, or_false] at hx
  rcases hx with h | h | h | h | h | h | h | h | h | h | h | h | h | h | h | h | h <;> (subst h; exact ⟨A22.tn (_, _) (by simp [Lot.errs, Lot.due]), A22.tm (_, _) (by simp [Lot.errs, Lot.due])⟩)
end
end Nn

namespace Nn
open PySem PySem.Spec PyProof.Rows L2
local macro_rules | `(tactic| walk_at "rd1") => `(tactic| first
  | with_reducible refine' rd_c ?_
  | ((with_reducible refine' rd_var ?h ?_); (case h => rfl))
  | with_reducible refine' rd_op ?_
  | with_reducible refine' rd_I0 ?_
  | with_reducible refine' rd_seq ?_
  | ((with_reducible refine' rd_mod ?h ?_); (case h => decide))
  | ((with_reducible refine' rd_fdiv ?h ?_); (case h => exact ⟨by decide, by decide⟩))
  | ((with_reducible refine' rd_pow ?h ?_); (case h => exact ⟨by decide, by decide, by decide⟩))
  | ((with_reducible refine' rd_mul ?h ?_); (case h => first | exact Or.inl (by decide) | exact Or.inr (by decide)))
  | with_reducible refine' rd_set ?_
  | with_reducible refine' rd_asg ?_
  | with_reducible refine' rd_cons ?_
  | with_reducible refine' rd_nil ?_
  | with_reducible refine' rd_call ?_
  | with_reducible refine' rd_cb ?_
  | with_reducible refine' rd_if ?_
  | with_reducible refine' rd_test ?_
  | with_reducible refine' rd_B ?_
  | with_reducible refine' rd_bl ?_
  | ((with_reducible refine' rd_eq ?h ?_); (case h => rfl))
  | ((with_reducible refine' rd_ne ?h ?_); (case h => rfl))
  | with_reducible refine' rd_not ?_
  | with_reducible refine' rd_and ?_
  | with_reducible refine' rd_or ?_
  | with_reducible refine' rd_notV ?_
  | with_reducible refine' rd_chain ?_
  | with_reducible refine' rd_ret ?_
  | with_reducible refine' rd_drop ?_
  | with_reducible refine' rd_next' ?_
  | with_reducible refine' rd_lst ?_
  | with_reducible refine' rd_tup ?_
  | with_reducible refine' rd_lc ?_
  | with_reducible refine' rd_rng1 ?_
  | with_reducible refine' rd_istr ?_
  | with_reducible refine' rd_ilst ?_
  | with_reducible refine' rd_ienum ?_
  | with_reducible refine' rd_bm0 ?_
  | with_reducible refine' rd_bm ?_
  | with_reducible refine' rd_m1 ?_
  | with_reducible refine' rd_sl ?_
  | with_reducible refine' rd_po0 ?_
  | with_reducible refine' rd_po1 ?_
  | with_reducible refine' rd_in ?_
  | with_reducible refine' rd_sub ?_
  | with_reducible refine' rd_ifE ?_
  | with_reducible refine' rd_un ?_
  | with_reducible refine' rd_U ?_
  | with_reducible refine' rd_brk ?_
  | with_reducible refine' rd_cont ?_
  | with_reducible refine' rd_yes ?_
  | with_reducible refine' rd_T ?_
  | with_reducible refine' rd_F ?_
  | with_reducible refine' rd_nT ?_
  | with_reducible refine' rd_nF ?_
  | with_reducible refine' rd_dni ?_
  | with_reducible refine' rd_di ?_
  | with_reducible refine' rd_dget ?_
  | with_reducible refine' rd_dget1 ?_
  | with_reducible refine' rd_dget2 ?_
  | with_reducible refine' rd_dget2N ?_
  | with_reducible refine' rd_dpop1 ?_
  | with_reducible refine' rd_ddel ?_
  | with_reducible refine' rd_mkN ?_
  | with_reducible refine' rd_mkV ?_
  | with_reducible refine' rd_dput ?_
  | with_reducible refine' rd_dnew ?_
  | with_reducible refine' rd_ikeys ?_
  | with_reducible refine' rd_gn ?_
  | with_reducible refine' rd_for ?_
  | with_reducible refine' rd_make ?_
  | with_reducible refine' rd_meth ?_
  | with_reducible refine' rd_fld ?_
  | with_reducible refine' rd_sfld ?_
  | with_reducible refine' rd_dc ?_
  | with_reducible refine' rd_items ?_
  | with_reducible refine' rd_sadd ?_
  | with_reducible refine' rd_ivals ?_
  | with_reducible refine' rd_callS ?_
  | with_reducible refine' rd_makeS ?_
  | with_reducible refine' rd_methS ?_
  | with_reducible refine' rd_fldH ?_
  | with_reducible refine' rd_mkO ?_)
local macro_rules | `(tactic| walk_at "sub") => `(tactic| repeat' (first | exact List.nil_sublist _ | exact List.Sublist.refl _ | apply List.Sublist.cons₂ | apply List.Sublist.cons))
local macro_rules | `(tactic| walk_at "rd") => `(tactic| repeat walk_at "rd1")

section
variable {P : Program} {w : World} {K : PySem.W.Frag} {mg : Str → Option Value} {base : Heap}
/-! ### of which classes a refusal is; its field -/
def spKinds (Cs : ErrCs) : Sp := fun vs H Q _ => ∃ (a : Addr) (x : Flt), vs = [.ref a] ∧ ErrIs Cs H a x ∧ ∀ H' p, Kp [] H H' → H p = none → H' p = some (.lst ((List.range 7).map fun j => V.bl (decide (x.ix = j)))) → Q (.ref p) H'
theorem ok__law_kinds {f : Addr} {fd : FuncData} (F : Fun K "_law_kinds" "_law_kinds" s_law_kinds f fd) (B : Blt mg) {Cs : ErrCs} (Y : ErrK K Cs) (G : GWord mg Cs) : FnOk P w K mg base CX0 1 f fd P_law_kinds (spKinds Cs) := by
  obtain ⟨g_NoName, g_Twice, g_Missing, g_Held, g_LetGo, g_NoSpare, g_NoRow⟩ := G
  refine F.ok sc_law_kinds (fun vs H Q E h => by obtain ⟨a, x, rfl, _⟩ := h; rfl) (fun cdv A outer s0 H vs Q E hr h => ?_)
  obtain ⟨a, x, rfl, hE, q⟩ := h
  refine ⟨_, pss_cons (ps_set (i := 1) sc_law_kinds.nd rfl (Or.inl rfl) (pe_lst (pa_cons (pe_callB call_isH (by rfl) B.isinstance (by decide +kernel) (pa_cons (pv 0) (pa_cons (pe_gref (by rfl) g_NoName) pa_nil))) (pa_cons (pe_callB call_isH (by rfl) B.isinstance (by decide +kernel) (pa_cons (pv 0) (pa_cons (pe_gref (by rfl) g_Twice) pa_nil))) (pa_cons (pe_callB call_isH (by rfl) B.isinstance (by decide +kernel) (pa_cons (pv 0) (pa_cons (pe_gref (by rfl) g_Missing) pa_nil))) (pa_cons (pe_callB call_isH (by rfl) B.isinstance (by decide +kernel) (pa_cons (pv 0) (pa_cons (pe_gref (by rfl) g_Held) pa_nil))) pa_nil))))))
  (pss_one (ps_ret (pe_op op_cat (pv 1) (pe_lst (pa_cons (pe_callB call_isH (by rfl) B.isinstance (by decide +kernel) (pa_cons (pv 0) (pa_cons (pe_gref (by rfl) g_LetGo) pa_nil))) (pa_cons (pe_callB call_isH (by rfl) B.isinstance (by decide +kernel) (pa_cons (pv 0) (pa_cons (pe_gref (by rfl) g_NoSpare) pa_nil))) (pa_cons (pe_callB call_isH (by rfl) B.isinstance (by decide +kernel) (pa_cons (pv 0) (pa_cons (pe_gref (by rfl) g_NoRow) pa_nil))) pa_nil))))))), ?_⟩
  dsimp only [cxOf, Cx.nox]
  have A := At.nil H
  walk_at "rd"
  refine rd_isH Y hE 0 (by decide) ?_
  walk_at "rd"
  refine rd_isH Y hE 1 (by decide) ?_
  walk_at "rd"
  refine rd_isH Y hE 2 (by decide) ?_
  walk_at "rd"
  refine rd_isH Y hE 3 (by decide) ?_
  walk_at "rd"
  refine ⟨szl rfl, fun p1 hp1 => ?_⟩
  have A1 := A.snoc hp1 (.lst [.bl (decide (x.ix = 0)), .bl (decide (x.ix = 1)), .bl (decide (x.ix = 2)), .bl (decide (x.ix = 3))])
  revert A1
  generalize upd H p1 (.lst [.bl (decide (x.ix = 0)), .bl (decide (x.ix = 1)), .bl (decide (x.ix = 2)), .bl (decide (x.ix = 3))]) = H1
  intro A1
  have hE1 := hE.kp A1.keep
  walk_at "rd"
  refine rd_isH Y hE1 4 (by decide) ?_
  walk_at "rd"
  refine rd_isH Y hE1 5 (by decide) ?_
  walk_at "rd"
  refine rd_isH Y hE1 6 (by decide) ?_
  walk_at "rd"
  refine ⟨szl rfl, fun p2 hp2 => ?_⟩
  have A2 := A1.snoc hp2 (.lst [.bl (decide (x.ix = 4)), .bl (decide (x.ix = 5)), .bl (decide (x.ix = 6))])
  revert A2
  generalize upd H1 p2 (.lst [.bl (decide (x.ix = 4)), .bl (decide (x.ix = 5)), .bl (decide (x.ix = 6))]) = H2
  intro A2
  refine ⟨p1, p2, _, _, rfl, rfl, A2.get 0 rfl, A2.get 1 rfl, szl rfl, fun p3 hp3 => ?_⟩
  have A3 := A2.snoc hp3 (.lst ((List.range 7).map fun j => V.bl (decide (x.ix = j))))
  exact q _ p3 A3.keep (A2.fresh0 hp3) (A3.get 2 rfl)
def fldName (i : Nat) : Str := if i < 5 then "name" else if i = 5 then "ring" else "row"
def spField (Cs : ErrCs) : Sp := fun vs H Q _ => ∃ (a : Addr) (x : Flt) (d : Option Addr) (fs : List (Str × V)) (v : V), vs = [.ref a, .int (x.ix : Nat)] ∧ ErrAt H a (x.cls Cs) d fs ∧ ((x.ix = 0 ∧ v = .non) ∨ (x.ix ≠ 0 ∧ d ≠ none ∧ fs = [(fldName x.ix, v)])) ∧ Q v H
theorem ok__law_field {f : Addr} {fd : FuncData} (F : Fun K "_law_field" "_law_field" s_law_field f fd) (B : Blt mg) {Cs : ErrCs} (Y : ErrK K Cs) : FnOk P w K mg base CX0 1 f fd P_law_field (spField Cs) := by
  refine F.ok sc_law_field (fun vs H Q E h => by obtain ⟨a, x, d, fs, v, rfl, _⟩ := h; rfl) (fun cdv A outer s0 H vs Q E hr h => ?_)
  obtain ⟨a, x, d, fs, v, rfl, hE, hv, q⟩ := h
  refine ⟨_, pss_cons (ps_if (pt_cmpR op_eq (pv 1) pe_int (nomark _)) (pss_one (ps_ret pe_non))
   (pss_nil))
  (pss_cons (ps_if (pt_cmpR op_lt (pv 1) pe_int (nomark _)) (pss_one (ps_ret (pe_fldH (pv 0) rfl)))
   (pss_nil))
  (pss_one (ps_ret (pe_ifExp (pt_cmpR op_eq (pv 1) pe_int (nomark _)) (pe_fldH (pv 0) rfl) (pe_fldH (pv 0) rfl))))), ?_⟩
  dsimp only [cxOf, Cx.nox]
  have hlt := x.ix_lt
  walk_at "rd"
  refine rd_ite (fun h0 => ?_) (fun h0 => ?_)
  · have h0 : x.ix = 0 := by have := V.int.inj h0; omega
    walk_at "rd"
    rcases hv with ⟨_, rfl⟩ | ⟨h, _⟩
    · exact q
    · exact absurd h0 h
  · have h0 : x.ix ≠ 0 := fun e => h0 (by rw [e]; rfl)
    obtain ⟨_, hd, rfl⟩ := hv.resolve_left (fun h => h0 h.1)
    obtain ⟨dd, rfl⟩ := Option.ne_none_iff_exists'.mp hd
    have hex : ExcC K (x.cls Cs) := by rw [← x.at_ix]; exact Y.exc _ hlt
    have fin : ∀ f : Str, fldName x.ix = f → PySem.W.findIn K (.ref (x.cls Cs)) f = some none → ∃ (a' C d : Addr) (fs : List (Str × V)) (v' : V), V.ref a = .ref a' ∧ ErrAt H a' C (some d) fs ∧ ExcC K C ∧ PySem.W.findIn K (.ref C) f = some none ∧ fs.lookup f = some v' ∧ Q v' H := fun f hf hn =>
      ⟨a, x.cls Cs, dd, _, v, rfl, hE, hex, hn, by rw [hf]; simp [List.lookup], q⟩
    walk_at "rd"
    refine rd_ite (fun h5 => ?_) (fun h5 => ?_)
    · walk_at "rd"
      refine fin "name" (if_pos (by omega)) ?_
      cases x with
      | name => exact absurd rfl h0
      | twice z => exact Y.nT
      | missing z => exact Y.nM
      | held z => exact Y.nH
      | letgo z => exact Y.nL
      | spare z => exact absurd (show ((5 : Nat) : Int) < 5 from h5) (by decide)
      | row z => exact absurd (show ((6 : Nat) : Int) < 5 from h5) (by decide)
    · walk_at "rd"
      cases x with
      | name => exact absurd rfl h0
      | twice z => exact absurd (show ((1 : Nat) : Int) < 5 by decide) h5
      | missing z => exact absurd (show ((2 : Nat) : Int) < 5 by decide) h5
      | held z => exact absurd (show ((3 : Nat) : Int) < 5 by decide) h5
      | letgo z => exact absurd (show ((4 : Nat) : Int) < 5 by decide) h5
      | spare z =>
        rw [if_pos (by rfl)]
        walk_at "rd"
        exact fin "ring" rfl Y.nS
      | row z =>
        refine rd_iteB (fun h => absurd (show decide (V.int ((6 : Nat) : Int) = V.int 5) = true from h) (by decide)) (fun _ => ?_)
        walk_at "rd"
        exact fin "row" rfl Y.nR
end
end Nn

namespace Nn
open PySem PySem.Spec PyProof.Rows L2
local macro_rules | `(tactic| walk_at "rd1") => `(tactic| first
  | with_reducible refine' rd_c ?_
  | ((with_reducible refine' rd_var ?h ?_); (case h => rfl))
  | with_reducible refine' rd_op ?_
  | with_reducible refine' rd_I0 ?_
  | with_reducible refine' rd_seq ?_
  | ((with_reducible refine' rd_mod ?h ?_); (case h => decide))
  | ((with_reducible refine' rd_fdiv ?h ?_); (case h => exact ⟨by decide, by decide⟩))
  | ((with_reducible refine' rd_pow ?h ?_); (case h => exact ⟨by decide, by decide, by decide⟩))
  | ((with_reducible refine' rd_mul ?h ?_); (case h => first | exact Or.inl (by decide) | exact Or.inr (by decide)))
  | with_reducible refine' rd_set ?_
  | with_reducible refine' rd_asg ?_
  | with_reducible refine' rd_cons ?_
  | with_reducible refine' rd_nil ?_
  | with_reducible refine' rd_call ?_
  | with_reducible refine' rd_cb ?_
  | with_reducible refine' rd_if ?_
  | with_reducible refine' rd_test ?_
  | with_reducible refine' rd_B ?_
  | with_reducible refine' rd_bl ?_
  | ((with_reducible refine' rd_eq ?h ?_); (case h => rfl))
  | ((with_reducible refine' rd_ne ?h ?_); (case h => rfl))
  | with_reducible refine' rd_not ?_
  | with_reducible refine' rd_and ?_
  | with_reducible refine' rd_or ?_
  | with_reducible refine' rd_notV ?_
  | with_reducible refine' rd_chain ?_
  | with_reducible refine' rd_ret ?_
  | with_reducible refine' rd_drop ?_
  | with_reducible refine' rd_next' ?_
  | with_reducible refine' rd_lst ?_
  | with_reducible refine' rd_tup ?_
  | with_reducible refine' rd_lc ?_
  | with_reducible refine' rd_rng1 ?_
  | with_reducible refine' rd_istr ?_
  | with_reducible refine' rd_ilst ?_
  | with_reducible refine' rd_ienum ?_
  | with_reducible refine' rd_bm0 ?_
  | with_reducible refine' rd_bm ?_
  | with_reducible refine' rd_m1 ?_
  | with_reducible refine' rd_sl ?_
  | with_reducible refine' rd_po0 ?_
  | with_reducible refine' rd_po1 ?_
  | with_reducible refine' rd_in ?_
  | with_reducible refine' rd_sub ?_
  | with_reducible refine' rd_ifE ?_
  | with_reducible refine' rd_un ?_
  | with_reducible refine' rd_U ?_
  | with_reducible refine' rd_brk ?_
  | with_reducible refine' rd_cont ?_
  | with_reducible refine' rd_yes ?_
  | with_reducible refine' rd_T ?_
  | with_reducible refine' rd_F ?_
  | with_reducible refine' rd_nT ?_
  | with_reducible refine' rd_nF ?_
  | with_reducible refine' rd_dni ?_
  | with_reducible refine' rd_di ?_
  | with_reducible refine' rd_dget ?_
  | with_reducible refine' rd_dget1 ?_
  | with_reducible refine' rd_dget2 ?_
  | with_reducible refine' rd_dget2N ?_
  | with_reducible refine' rd_dpop1 ?_
  | with_reducible refine' rd_ddel ?_
  | with_reducible refine' rd_mkN ?_
  | with_reducible refine' rd_mkV ?_
  | with_reducible refine' rd_dput ?_
  | with_reducible refine' rd_dnew ?_
  | with_reducible refine' rd_ikeys ?_
  | with_reducible refine' rd_gn ?_
  | with_reducible refine' rd_for ?_
  | with_reducible refine' rd_make ?_
  | with_reducible refine' rd_meth ?_
  | with_reducible refine' rd_fld ?_
  | with_reducible refine' rd_sfld ?_
  | with_reducible refine' rd_dc ?_
  | with_reducible refine' rd_items ?_
  | with_reducible refine' rd_sadd ?_
  | with_reducible refine' rd_ivals ?_
  | with_reducible refine' rd_callS ?_
  | with_reducible refine' rd_makeS ?_
  | with_reducible refine' rd_methS ?_
  | with_reducible refine' rd_fldH ?_
  | with_reducible refine' rd_mkO ?_)
local macro_rules | `(tactic| walk_at "sub") => `(tactic| repeat' (first | exact List.nil_sublist _ | exact List.Sublist.refl _ | apply List.Sublist.cons₂ | apply List.Sublist.cons))
local macro_rules | `(tactic| walk_at "rd") => `(tactic| repeat walk_at "rd1")

theorem cost_le {l : List Str} (hl : l.length ≤ 10) (hn : ∀ z ∈ l, nameOk z = true) : fmtCost l ≤ 840 := by
  unfold fmtCost
  have : ∀ u : List Str, (∀ y ∈ u, nameOk y = true) → (u.map fun y => 10 * y.length + 4).sum ≤ u.length * 84 := by
    intro u
    induction u with
    | nil => intro _; exact Nat.le_refl _
    | cons y u ih =>
      intro h
      have h1 := nameOk_len (h y List.mem_cons_self)
      have h2 := ih fun z hz => h z (List.mem_cons_of_mem _ hz)
      rw [List.map_cons, List.sum_cons, List.length_cons, Nat.succ_mul]
      omega
  have := this l hn
  omega
structure LotAt (K : PySem.W.Frag) (Cs : ErrCs) (H : Hp) (x : Lot) (i : Nat) (a : Addr) (v : V) (f : Flt) : Prop where
  err : x.errs[i]? = some (.ref a)
  due : x.due[i]? = some v
  ix : f.ix = i
  is : ErrIs Cs H a f
  fld : ∃ d fs, ErrAt H a (f.cls Cs) d fs ∧ ((f.ix = 0 ∧ v = .non) ∨ (f.ix ≠ 0 ∧ d ≠ none ∧ fs = [(fldName f.ix, v)]))
  rep : ∃ tx, ∀ H', Kp [] H H' → RepIs K H' v tx
theorem Lot.at {K : PySem.W.Frag} {Cs : ErrCs} {H : Hp} {x : Lot} (ok : x.Ok) (hT : ∀ e ∈ x.T Cs, H e.1 = some e.2) {i : Nat} (hi : i < 7) : ∃ a v f, LotAt K Cs H x i a v f := by
  have repS : ∀ z : Str, nameOk z = true → ∃ tx, ∀ H', Kp [] H H' → RepIs K H' (.str z) tx := fun z hz =>
    ⟨_, fun H' _ => .inr (.inr (.inl ⟨z, rfl, Nat.le_trans (short_repr (short_name hz)) (by decide), rfl⟩))⟩
  have own : ∀ {a d C : Addr} {f : Str} {v : V}, (a, ExH (.ref C) (some d) a) ∈ x.T Cs → (d, HO.xd [(f, v)]) ∈ x.T Cs → ErrAt H a C (some d) [(f, v)] := fun h1 h2 => .own (hT _ h1) (hT _ h2)
  match i, hi with
  | 0, _ =>
    have h : ErrAt H x.e0 Cs.name none [] := .bare (hT (x.e0, ExH (.ref Cs.name) none x.e0) (by simp [Lot.T]))
    exact ⟨x.e0, .non, .name, rfl, rfl, rfl, ⟨none, [], h, rfl, fun h => absurd rfl h⟩, ⟨none, [], h, .inl ⟨rfl, rfl⟩⟩, _, fun H' _ => .inl ⟨rfl, rfl⟩⟩
  | 1, _ =>
    have h : ErrAt H x.e1 Cs.twice (some x.d1) [("name", .str x.n0)] := own (by simp [Lot.T]) (by simp [Lot.T])
    exact ⟨x.e1, .str x.n0, .twice x.n0, rfl, rfl, rfl, ⟨_, _, h, rfl, fun _ => by simp⟩, ⟨_, _, h, .inr ⟨(fun h => by cases h), by simp, rfl⟩⟩, repS _ ok.n0⟩
  | 2, _ =>
    have h : ErrAt H x.e2 Cs.missing (some x.d2) [("name", .str x.n1)] := own (by simp [Lot.T]) (by simp [Lot.T])
    exact ⟨x.e2, .str x.n1, .missing x.n1, rfl, rfl, rfl, ⟨_, _, h, rfl, fun _ => by simp⟩, ⟨_, _, h, .inr ⟨(fun h => by cases h), by simp, rfl⟩⟩, repS _ ok.n1⟩
  | 3, _ =>
    have h : ErrAt H x.e3 Cs.held (some x.d3) [("name", .str x.n2)] := own (by simp [Lot.T]) (by simp [Lot.T])
    exact ⟨x.e3, .str x.n2, .held x.n2, rfl, rfl, rfl, ⟨_, _, h, rfl, fun _ => by simp⟩, ⟨_, _, h, .inr ⟨(fun h => by cases h), by simp, rfl⟩⟩, repS _ ok.n2⟩
  | 4, _ =>
    have h : ErrAt H x.e4 Cs.letgo (some x.d4) [("name", .str x.n3)] := own (by simp [Lot.T]) (by simp [Lot.T])
    exact ⟨x.e4, .str x.n3, .letgo x.n3, rfl, rfl, rfl, ⟨_, _, h, rfl, fun _ => by simp⟩, ⟨_, _, h, .inr ⟨(fun h => by cases h), by simp, rfl⟩⟩, repS _ ok.n3⟩
  | 5, _ =>
    have h : ErrAt H x.e5 Cs.spare (some x.d5) [("ring", .ref x.pr)] := own (by simp [Lot.T]) (by simp [Lot.T])
    have ht : H x.pr = some (.tup (x.l.map V.str)) := hT (x.pr, .tup (x.l.map V.str)) (by simp [Lot.T])
    refine ⟨x.e5, .ref x.pr, .spare x.l, rfl, rfl, rfl, ⟨_, _, h, ⟨x.pr, rfl, ht⟩, fun _ => by simp⟩, ⟨_, _, h, .inr ⟨(fun h => by cases h), by simp, rfl⟩⟩, _, fun H' k => .inr (.inr (.inr ⟨x.pr, x.l, rfl, .inl (.inl (k _ _ ht (by simp))), fun y hy => Nat.le_trans (short_repr (short_name (ok.nl y hy))) (by decide), ?_, rfl⟩))⟩
    have h1 := fmt_text (x.l.map reprText)
    have h2 := fmt_piled x.l fun y hy => short_cps (short_name (ok.nl y hy))
    have h3 := cost_le ok.len ok.nl
    exact szn (by omega)
  | 6, _ =>
    have h : ErrAt H x.e6 Cs.row (some x.d6) [("row", .int x.row)] := own (by simp [Lot.T]) (by simp [Lot.T])
    have r1 := ok.r1
    exact ⟨x.e6, .int x.row, .row x.row, rfl, rfl, rfl, ⟨_, _, h, rfl, fun _ => by simp⟩, ⟨_, _, h, .inr ⟨(fun h => by cases h), by simp, rfl⟩⟩, _, fun H' _ => .inr (.inl ⟨x.row, rfl, row_log ok.r0 (by omega), rfl⟩)⟩
section
variable {P : Program} {w : World} {K : PySem.W.Frag} {mg : Str → Option Value} {base : Heap}
structure CLaw (P : Program) (w : World) (K : PySem.W.Frag) (mg : Str → Option Value) (base : Heap) (Cs : ErrCs) : Prop where
  _law_begun : Cl P w K mg base 1 "_law_begun" (spBegun K)
  _law_made : Cl P w K mg base 6 "_law_made" (spMade Cs)
  _law_kinds : Cl P w K mg base 1 "_law_kinds" (spKinds Cs)
  _law_field : Cl P w K mg base 1 "_law_field" (spField Cs)
structure NewK (K : PySem.W.Frag) (mg : Str → Option Value) (Cs : ErrCs) (CN : Addr) : Prop where
  kit : ∀ i, i < 7 → PySem.W.kitOne K (.ref (Cs.at i)) (.ref CN) = some true
  g : mg "NewError" = some (.ref CN)
theorem rd_isHN {Cs : ErrCs} {CN : Addr} (Y : ErrK K Cs) (N : NewK K mg Cs CN) {H : Hp} {a : Addr} {x : Flt} {Q : VK} (h : ErrIs Cs H a x) (q : Q (.bl true) H) : rIsH K [.ref a, .ref CN] H Q := by
  obtain ⟨d, fs, h1, _⟩ := h
  rw [← x.at_ix] at h1
  exact ⟨a, _, d, fs, .ref CN, .ref CN, _, rfl, .own _, h1, Y.exc _ x.ix_lt, N.kit _ x.ix_lt, q⟩
def spLaw (K : PySem.W.Frag) : Sp := fun vs H Q _ => ∃ (a : Addr) (ns : List Int), vs = [.ref a] ∧ SqL K H a (ns.map V.int) ∧ ns.length ≤ 63 ∧ ∀ H', Q (.bl true) H'
theorem ok_law {f : Addr} {fd : FuncData} (F : Fun K "law" "law" slaw f fd) (B : Blt mg) {Cs : ErrCs} {CN : Addr} (Y : ErrK K Cs) (N : NewK K mg Cs CN) (C : CLaw P w K mg base Cs) : FnOk P w K mg base CX0 7 f fd Plaw (spLaw K) := by
  have g_NewError := N.g
  refine F.ok sclaw (fun vs H Q E h => by obtain ⟨a, ns, rfl, _⟩ := h; rfl) (fun cdv A outer s0 H vs Q E hr h => ?_)
  obtain ⟨a, ns, rfl, hS, hlen, q⟩ := h
  refine ⟨_, pss_cons (ps_set (i := 1) sclaw.nd rfl (Or.inr rfl) (pe_cl C._law_begun hr (by omega) (by rfl) (pa_cons (pv 0) pa_nil)))
  (pss_cons (ps_setLc (i := 2) (own := [("_law_turn", 7)]) rfl sclaw.nd rfl rfl (sw_true rfl rfl rfl (by decide +kernel)) (pi_range1 (by rfl) B.range (pa_cons (pe_op op_add pe_int (pe_callB (call_min2 rfl) (by rfl) B.min (by decide +kernel) (pa_cons (pe_callB call_len_seq (by rfl) B.len (by decide +kernel) (pa_cons (pv 0) pa_nil)) (pa_cons pe_int pa_nil)))) pa_nil)) (blkOk_by (N := Nlaw) (sc := defScope slaw) (by decide +kernel)) (fun _ _ _ _ _ => (pg_name (i := 7) sclaw.nd rfl (Or.inl rfl))) (fun _ _ _ _ _ => pts_nil) (fun _ _ _ _ _ => (pe_cl C._law_made hr (by omega) (by rfl) (pa_cons (pv 1) pa_nil))))
  (pss_cons (ps_for PassesOwn.never rfl (pi_list (pv 2)) (pg_tup rfl (pgs_cons (pg_name (i := 3) sclaw.nd rfl (Or.inl rfl)) (pgs_cons (pg_name (i := 4) sclaw.nd rfl (Or.inl rfl)) pgs_nil)))
   (pss_one (ps_for PassesOwn.never rfl (pi_enum (by rfl) B.enumerate (pa_cons (pv 3) pa_nil)) (pg_tup rfl (pgs_cons (pg_name (i := 5) sclaw.nd rfl (Or.inr rfl)) (pgs_cons (pg_name (i := 6) sclaw.nd rfl (Or.inl rfl)) pgs_nil)))
   (pss_cons (ps_if (PW.pt (pw_or (pt_not (pt_val (pe_callB call_isH (by rfl) B.isinstance (by decide +kernel) (pa_cons (pv 6) (pa_cons (pe_gref (by rfl) g_NewError) pa_nil))))) (pw_or1 (pt_not (pt_val (pe_callB call_isH (by rfl) B.isinstance (by decide +kernel) (pa_cons (pv 6) (pa_cons (pe_ty (T := "ValueError") (by rfl) B.ValueError (by decide +kernel)) pa_nil)))))))) (pss_one (ps_ret pe_bl))
   (pss_nil))
  (pss_cons (ps_if (pt_cmpR (op_neD hr.units) (pe_cl C._law_kinds hr (by omega) (by rfl) (pa_cons (pv 6) pa_nil)) (pe_lc (own := [("_law_spot", 8)]) rfl sclaw.nd (pi_range1 (by rfl) B.range (pa_cons pe_int pa_nil)) (blkOk_by (N := Nlaw) (sc := defScope slaw) (by decide +kernel)) (fun _ _ _ _ _ => (pg_name (i := 8) sclaw.nd rfl (Or.inl rfl))) (fun _ _ _ _ _ => pts_nil) (fun _ _ _ _ _ => (pe_cmpR op_eq (pv 5) (pv 8) (nomark _)))) (nomark _)) (pss_one (ps_ret pe_bl))
   (pss_nil))
  (pss_one (ps_if (pt_reprNe (hu_of hr) (by rfl) B.repr (pe_cl C._law_field hr (by omega) (by rfl) (pa_cons (pv 6) (pa_cons (pv 5) pa_nil))) (pe_ix ix_list (pv 4) (pv 5) (fun _ _ => rfl))) (pss_one (ps_ret pe_bl))
   (pss_nil))))))))
  (pss_one (ps_ret pe_bl)))), ?_⟩
  dsimp only [cxOf, Cx.nox]
  walk_at "rd"
  refine ⟨a, ns, rfl, hS, hlen, fun H1 d gl cl gs hd hgl hcl S k1 => ?_⟩
  have A1 : At [] H H1 [(d, .dK (stK gl cl 0 0)), (gl, .lst (gs.map V.int)), (cl, .lst (ns.map V.int))] [] := by
    refine ⟨fun b o hb _ => k1 b o hb (by simp), ?_, ?_, ?_, by simp, by simp, by simp, by simp⟩
    · simp only [List.map_cons, List.map_nil, List.nodup_cons, List.mem_cons, List.not_mem_nil, or_false, not_or, not_false_eq_true, and_true]
      exact ⟨⟨S.dg, S.dc⟩, S.ne, trivial, List.nodup_nil⟩
    · intro e he
      simp only [List.mem_cons, List.not_mem_nil, or_false] at he
      rcases he with rfl | rfl | rfl
      · exact S.hd
      · exact S.hg
      · exact S.hc
    · intro e he
      simp only [List.mem_cons, List.not_mem_nil, or_false] at he
      rcases he with rfl | rfl | rfl
      · exact .inl hd
      · exact .inl hgl
      · exact .inl hcl
  walk_at "rd"
  refine ⟨a, _, rfl, .inl (A1.sq hS (by simp)), ?_⟩
  rw [List.length_map]
  walk_at "rd"
  refine ⟨_, _, rfl, ?_⟩
  walk_at "rd"
  have hmin : (2 + (if (8 : Int) < ((ns.length : Nat) : Int) then (8 : Int) else ((ns.length : Nat) : Int))).toNat ≤ 10 := by split <;> omega
  have hmin0 : 0 ≤ (2 + (if (8 : Int) < ((ns.length : Nat) : Int) then (8 : Int) else ((ns.length : Nat) : Int))) := by split <;> omega
  generalize (2 + (if (8 : Int) < ((ns.length : Nat) : Int) then (8 : Int) else ((ns.length : Nat) : Int))) = mm at *
  refine ⟨_, rfl, by omega, by omega, fun D hD => ?_⟩
  refine lc_range (n := mm.toNat) (fun i H' => ∃ (r2 t2 : Int) (gs2 : List Int) (ls : List Lot), gs2.length ≤ 63 ∧ 0 ≤ t2 ∧ t2 ≤ 100 * i ∧ ls.length = i ∧ (∀ x ∈ ls, x.Ok) ∧ At [] H H' [(d, .dK (stK gl cl r2 t2)), (gl, .lst (gs2.map V.int)), (cl, .lst (ns.map V.int)), (D, .lst (ls.map fun x : Lot => V.ref x.p))] (ls.flatMap (Lot.T Cs)))
    ⟨0, 0, gs, [], S.len, by decide, by omega, rfl, by simp, A1.snoc hD _⟩ ?_ ?_
  · rintro i H5 hi ⟨r2, t2, gs2, ls, l2, p2, p3, hl, hok, A5⟩
    refine ⟨rfl, rd_yes (rd_T ?_)⟩
    walk_at "rd"
    refine ⟨d, gl, cl, r2, t2, gs2, ns, rfl, ⟨A5.get 0 rfl, A5.get 1 rfl, A5.get 2 rfl, S.ne, l2, p2⟩, by omega, fun x r3 t3 gs3 H6 hx h3 So hT => ?_⟩
    have A6 : At [] H H6 [(d, .dK (stK gl cl r3 t3)), (gl, .lst (gs3.map V.int)), (cl, .lst (ns.map V.int)), (D, .lst (ls.map fun x : Lot => V.ref x.p))] (ls.flatMap (Lot.T Cs) ++ x.T Cs) := A5.addT (So.at A5 0 1 rfl rfl (by decide)) rfl (x.T Cs) hT
    refine ⟨_, A6.get 3 rfl, by rw [List.length_map]; exact szn' (by omega), r3, t3, gs3, ls ++ [x], So.len, So.t0, by omega, by rw [List.length_append, hl]; rfl, ?_, ?_⟩
    · intro v hv
      rcases List.mem_append.mp hv with hv | hv
      · exact hok v hv
      · rw [List.mem_singleton] at hv; rw [hv]; exact hx
    · rw [List.map_append, List.flatMap_append, List.flatMap_cons, List.flatMap_nil, List.append_nil]
      exact A6.set 3 rfl (.lst ((ls.map fun x : Lot => V.ref x.p) ++ [.ref x.p]))
  rintro H2 ⟨r2, t2, gs2, ls, l2, p2, p3, hl, hok, A2⟩
  have A2 := A2.sel (L' := [(D, .lst (ls.map fun x : Lot => V.ref x.p))]) (by simp) (by walk_at "sub")
  clear A1
  walk_at "rd"
  refine ⟨D, rfl, ⟨_, A2.lst 0 rfl⟩, ?_⟩
  refine forI (walk_list (xs := ls.map fun x : Lot => V.ref x.p)) (fun i σ H' => ∃ (y3 y4 y5 y6 : Option V), σ = [some (.ref a), some (.ref d), some (.ref D), y3, y4, y5, y6, none, none] ∧ At [] H H' [(D, .lst (ls.map fun x : Lot => V.ref x.p))] (ls.flatMap (Lot.T Cs)))
    ⟨_, _, _, _, rfl, A2⟩ (fun i σ H' _ ⟨_, _, _, _, _, A⟩ => A.lst 0 rfl) ?_ ?_
  · clear A2
    rintro i x σ H3 H3' hi ⟨y3, y4, y5, y6, rfl, A3⟩ ⟨rfl, hx⟩
    obtain ⟨x, hxu, rfl⟩ : ∃ u : Lot, ls[i]? = some u ∧ x = .ref u.p := by
      rw [List.getElem?_map] at hx
      obtain ⟨y, hy, e⟩ := Option.map_eq_some_iff.mp hx
      exact ⟨y, hy, e.symm⟩
    have hxm := List.mem_of_getElem? hxu
    have ok := hok x hxm
    have hT : ∀ {G : Hp} {L : List (Addr × HO)}, At [] H G L (ls.flatMap (Lot.T Cs)) → ∀ e ∈ x.T Cs, G e.1 = some e.2 := fun A e he => A.tm e (List.mem_flatMap.mpr ⟨x, hxm, he⟩)
    have tp := hT A3 (x.p, .tup [.ref x.pm, .ref x.pd]) (by simp [Lot.T])
    refine ⟨x.p, _, rfl, .inl (.inl tp), rfl, _, _, rfl, _, _, rfl, rfl, ?_⟩
    walk_at "rd"
    have hpm : ∀ {G : Hp} {L : List (Addr × HO)}, At [] H G L (ls.flatMap (Lot.T Cs)) → SqL K G x.pm x.errs := fun A => .inl (.inl (hT A (x.pm, .lst x.errs) (by simp [Lot.T])))
    have hpd : ∀ {G : Hp} {L : List (Addr × HO)}, At [] H G L (ls.flatMap (Lot.T Cs)) → SqL K G x.pd x.due := fun A => .inl (.inl (hT A (x.pd, .lst x.due) (by simp [Lot.T])))
    refine ⟨x.pm, x.errs, rfl, hpm A3, ?_⟩
    refine forI (walk_enum (xs := x.errs)) (fun j σ H' => ∃ (y5 y6 : Option V), σ = [some (.ref a), some (.ref d), some (.ref D), some (.ref x.pm), some (.ref x.pd), y5, y6, none, none] ∧ At [] H H' [(D, .lst (ls.map fun x : Lot => V.ref x.p))] (ls.flatMap (Lot.T Cs)))
      ⟨_, _, rfl, A3⟩ (fun i σ H' _ ⟨_, _, _, A⟩ => hpm A) ?_ ?_
    · clear A3
      rintro j ye σ H4 H5 hj ⟨y5', y6', rfl, A4⟩ ⟨T0, v1, ye, rfl, hT0, rfl, e1, hj'⟩
      cases Option.some.inj e1
      have A5 := A4.skip (Sk.of (o := .tup [.int (j : Nat), ye]) hT0)
      refine ⟨T0, [.int (j : Nat), ye], rfl, .inl (.inl upd_same), rfl, _, _, rfl, _, _, rfl, rfl, ?_⟩
      revert A5
      generalize upd H4 T0 (.tup [.int (j : Nat), ye]) = H5
      intro A5
      clear A4
      have hj7 : j < 7 := hj
      obtain ⟨ea, v, fl, LA⟩ := Lot.at (K := K) ok (hT A5) hj7
      have hj' : x.errs[j]? = some ye := hj'
      rw [LA.err] at hj'
      cases hj'
      walk_at "rd"
      refine rd_isHN Y N LA.is ?_
      walk_at "rd"
      refine rd_isHV Y LA.is ?_
      walk_at "rd"
      -- of which classes
      refine ⟨ea, fl, rfl, LA.is, fun H6 pk k6 hpk hpk' => ?_⟩
      have A6 := A5.add (A5.c0 k6) rfl hpk hpk'
      rw [LA.ix] at A6
      walk_at "rd"
      refine ⟨_, rfl, by decide, by decide, fun D2 hD2 => ?_⟩
      refine lc_range (n := 7) (fun u H' => At [] H H' [(D, .lst (ls.map fun x : Lot => V.ref x.p)), (pk, .lst ((List.range 7).map fun k => V.bl (decide (j = k)))), (D2, .lst ((List.range u).map fun k => V.bl (decide (j = k))))] (ls.flatMap (Lot.T Cs))) (A6.snoc hD2 _) ?_ ?_
      · rintro u H7 hu A7
        refine ⟨rfl, rd_yes (rd_T ?_)⟩
        walk_at "rd"
        rw [Int.zero_add]
        have ed : decide (V.int ((j : Nat) : Int) = V.int ((u : Nat) : Int)) = decide (j = u) := decide_eq_decide.mpr ⟨fun h => by have := V.int.inj h; omega, fun h => by rw [h]⟩
        rw [ed]
        refine ⟨_, A7.get 2 rfl, by rw [List.length_map, List.length_range]; exact szn' (by omega), ?_⟩
        have er : (List.range (u + 1)).map (fun k => V.bl (decide (j = k))) = (List.range u).map (fun k => V.bl (decide (j = k))) ++ [.bl (decide (j = u))] := by rw [List.range_succ, List.map_append]; rfl
        rw [er]
        exact A7.set 2 rfl (.lst ((List.range u).map (fun k => V.bl (decide (j = k))) ++ [.bl (decide (j = u))]))
      intro H7 A7
      have dpb : ∀ G : Hp, DpAll K G ((List.range 7).map fun k => V.bl (decide (j = k))) ((List.range 7).map fun k => PyData.bool (decide (j = k))) := fun G => dpa_of fun k _ => .bl _
      have shb : SeqAt.shaped (.list ((List.range 7).map fun k => PyData.bool (decide (j = k)))) = true := by rfl
      refine ⟨.list ((List.range 7).map fun k => PyData.bool (decide (j = k))), .list ((List.range 7).map fun k => PyData.bool (decide (j = k))), .lst (A7.lst 1 rfl) (dpb _), .lst (A7.lst 2 rfl) (dpb _), shb, shb, ?_⟩
      rw [SeqAt.eqv_refl _ (SeqAt.canLay_of_shaped shb)]
      refine rd_bl ?_
      walk_at "rd"
      -- its field
      have A8 := A7.sel (L' := [(D, .lst (ls.map fun x : Lot => V.ref x.p))]) (by simp) (by walk_at "sub")
      have he1 := LA.err
      have hd1 := LA.due
      clear A7 A6 A5 LA
      obtain ⟨ea2, v2, fl2, LB⟩ := Lot.at (K := K) ok (hT A8) hj7
      have he2 := LB.err
      have hd2 := LB.due
      rw [he1] at he2
      rw [hd1] at hd2
      cases he2
      cases hd2
      obtain ⟨ed, efs, hEA, hFV⟩ := LB.fld
      obtain ⟨tx, htx⟩ := LB.rep
      refine rd_reprNe ?_
      walk_at "rd"
      refine ⟨ea, fl2, ed, efs, v, by rw [LB.ix]; rfl, hEA, hFV, ?_⟩
      refine ⟨tx, htx _ (Kp.refl _), ?_⟩
      walk_at "rd"
      refine rd_ixL (hpd A8) (atI_nat hd1) ⟨rfl, htx _ (Kp.refl _), rd_bl ?_⟩
      walk_at "rd"
      exact ⟨_, _, rfl, A8⟩
    · rintro σ H4 ⟨y5', y6', rfl, A4⟩
      exact ⟨_, _, _, _, rfl, A4⟩
  · rintro σ H3 ⟨y3, y4, y5, y6, rfl, A3⟩
    walk_at "rd"
    exact q _
end
end Nn

namespace Nn
open PySem PySem.Spec PyProof.Rows L2
/-! ### what the top has left, the theorem -/
theorem all_mk {l : PySem.W.OpenLaw} {w : World} {K : PySem.W.Frag} {h : Heap} {mg : Str → Option Value} {fa : Addr} (X : K.In h) (G : h.Ns mainGlobals mg) (hfa : mg "law" = some (.ref fa))
    {f0 f1 f2 f3 f4 f5 f6 f7 f8 f9 : Addr}
    {od0 an0 od1 an1 od2 an2 od3 an3 od4 an4 od5 an5 od6 an6 od7 an7 od8 an8 od9 an9 : Option Addr} {sl0 sl1 sl2 sl3 sl4 sl5 sl6 sl7 sl8 sl9 : Array (Option Value)} {oc0 kV0 dc0 pm0 cd0 ct0 oc1 kV1 dc1 pm1 cd1 ct1 oc2 kV2 dc2 pm2 cd2 ct2 oc3 kV3 dc3 pm3 cd3 ct3 oc4 kV4 dc4 pm4 cd4 ct4 oc5 kV5 dc5 pm5 cd5 ct5 oc6 kV6 dc6 pm6 cd6 ct6 oc7 kV7 dc7 pm7 cd7 ct7 oc8 kV8 dc8 pm8 cd8 ct8 oc9 kV9 dc9 pm9 cd9 ct9 : Value}
    {CN E0 E1 E2 E3 E4 E5 E6 : Addr}
    {en1 eq1 : Str} {eN1 ef1 ecda1 ecc1 : Addr} {ebs1 esub1 : List Value} {esn1 : List Str} {eab1 : Bool} {ecol1 : Option Bool} {edd1 eod1 ean1 ecdd1 ecld1 : Option Addr} {ek0_1 ek1_1 ek2_1 ek3_1 ek5_1 : Option Value} {eoc1 ekV1 edc1 epm1 ect1 eccl1 ecl1 : Value} {esl1 eccs1 ecsl1 : Array (Option Value)} {evs1 : Array Value} {efile1 : Str} {etf1 : Tok}
    {en2 eq2 : Str} {eN2 ef2 ecda2 ecc2 : Addr} {ebs2 esub2 : List Value} {esn2 : List Str} {eab2 : Bool} {ecol2 : Option Bool} {edd2 eod2 ean2 ecdd2 ecld2 : Option Addr} {ek0_2 ek1_2 ek2_2 ek3_2 ek5_2 : Option Value} {eoc2 ekV2 edc2 epm2 ect2 eccl2 ecl2 : Value} {esl2 eccs2 ecsl2 : Array (Option Value)} {evs2 : Array Value} {efile2 : Str} {etf2 : Tok}
    {en3 eq3 : Str} {eN3 ef3 ecda3 ecc3 : Addr} {ebs3 esub3 : List Value} {esn3 : List Str} {eab3 : Bool} {ecol3 : Option Bool} {edd3 eod3 ean3 ecdd3 ecld3 : Option Addr} {ek0_3 ek1_3 ek2_3 ek3_3 ek5_3 : Option Value} {eoc3 ekV3 edc3 epm3 ect3 eccl3 ecl3 : Value} {esl3 eccs3 ecsl3 : Array (Option Value)} {evs3 : Array Value} {efile3 : Str} {etf3 : Tok}
    {en4 eq4 : Str} {eN4 ef4 ecda4 ecc4 : Addr} {ebs4 esub4 : List Value} {esn4 : List Str} {eab4 : Bool} {ecol4 : Option Bool} {edd4 eod4 ean4 ecdd4 ecld4 : Option Addr} {ek0_4 ek1_4 ek2_4 ek3_4 ek5_4 : Option Value} {eoc4 ekV4 edc4 epm4 ect4 eccl4 ecl4 : Value} {esl4 eccs4 ecsl4 : Array (Option Value)} {evs4 : Array Value} {efile4 : Str} {etf4 : Tok}
    {en5 eq5 : Str} {eN5 ef5 ecda5 ecc5 : Addr} {ebs5 esub5 : List Value} {esn5 : List Str} {eab5 : Bool} {ecol5 : Option Bool} {edd5 eod5 ean5 ecdd5 ecld5 : Option Addr} {ek0_5 ek1_5 ek2_5 ek3_5 ek5_5 : Option Value} {eoc5 ekV5 edc5 epm5 ect5 eccl5 ecl5 : Value} {esl5 eccs5 ecsl5 : Array (Option Value)} {evs5 : Array Value} {efile5 : Str} {etf5 : Tok}
    {en6 eq6 : Str} {eN6 ef6 ecda6 ecc6 : Addr} {ebs6 esub6 : List Value} {esn6 : List Str} {eab6 : Bool} {ecol6 : Option Bool} {edd6 eod6 ean6 ecdd6 ecld6 : Option Addr} {ek0_6 ek1_6 ek2_6 ek3_6 ek5_6 : Option Value} {eoc6 ekV6 edc6 epm6 ect6 eccl6 ecl6 : Value} {esl6 eccs6 ecsl6 : Array (Option Value)} {evs6 : Array Value} {efile6 : Str} {etf6 : Tok}
    (a0 : PySem.W.nsIn K mainGlobals "_law_begun" = some (some (.ref f0)))
    (l0 : K.lookup f0 = some ⟨oc0, od0, .func (PySem.W.fnOf "_law_begun" "_law_begun" (defArgs s_law_begun) (defBody s_law_begun) (defScope s_law_begun) .none kV0 dc0 pm0 an0 cd0 ct0), sl0⟩)
    (c0 : PySem.W.codeIn K cd0 "_law_begun" = true)
    (k0 : PySem.W.keepIn K (.ref f0) = true)
    (a1 : PySem.W.nsIn K mainGlobals "_law_mixed" = some (some (.ref f1)))
    (l1 : K.lookup f1 = some ⟨oc1, od1, .func (PySem.W.fnOf "_law_mixed" "_law_mixed" (defArgs s_law_mixed) (defBody s_law_mixed) (defScope s_law_mixed) .none kV1 dc1 pm1 an1 cd1 ct1), sl1⟩)
    (c1 : PySem.W.codeIn K cd1 "_law_mixed" = true)
    (k1 : PySem.W.keepIn K (.ref f1) = true)
    (a2 : PySem.W.nsIn K mainGlobals "_law_take" = some (some (.ref f2)))
    (l2 : K.lookup f2 = some ⟨oc2, od2, .func (PySem.W.fnOf "_law_take" "_law_take" (defArgs s_law_take) (defBody s_law_take) (defScope s_law_take) .none kV2 dc2 pm2 an2 cd2 ct2), sl2⟩)
    (c2 : PySem.W.codeIn K cd2 "_law_take" = true)
    (k2 : PySem.W.keepIn K (.ref f2) = true)
    (a3 : PySem.W.nsIn K mainGlobals "_law_pick" = some (some (.ref f3)))
    (l3 : K.lookup f3 = some ⟨oc3, od3, .func (PySem.W.fnOf "_law_pick" "_law_pick" (defArgs s_law_pick) (defBody s_law_pick) (defScope s_law_pick) .none kV3 dc3 pm3 an3 cd3 ct3), sl3⟩)
    (c3 : PySem.W.codeIn K cd3 "_law_pick" = true)
    (k3 : PySem.W.keepIn K (.ref f3) = true)
    (a4 : PySem.W.nsIn K mainGlobals "_law_word" = some (some (.ref f4)))
    (l4 : K.lookup f4 = some ⟨oc4, od4, .func (PySem.W.fnOf "_law_word" "_law_word" (defArgs s_law_word) (defBody s_law_word) (defScope s_law_word) .none kV4 dc4 pm4 an4 cd4 ct4), sl4⟩)
    (c4 : PySem.W.codeIn K cd4 "_law_word" = true)
    (k4 : PySem.W.keepIn K (.ref f4) = true)
    (a5 : PySem.W.nsIn K mainGlobals "_law_ring" = some (some (.ref f5)))
    (l5 : K.lookup f5 = some ⟨oc5, od5, .func (PySem.W.fnOf "_law_ring" "_law_ring" (defArgs s_law_ring) (defBody s_law_ring) (defScope s_law_ring) .none kV5 dc5 pm5 an5 cd5 ct5), sl5⟩)
    (c5 : PySem.W.codeIn K cd5 "_law_ring" = true)
    (k5 : PySem.W.keepIn K (.ref f5) = true)
    (a6 : PySem.W.nsIn K mainGlobals "_law_made" = some (some (.ref f6)))
    (l6 : K.lookup f6 = some ⟨oc6, od6, .func (PySem.W.fnOf "_law_made" "_law_made" (defArgs s_law_made) (defBody s_law_made) (defScope s_law_made) .none kV6 dc6 pm6 an6 cd6 ct6), sl6⟩)
    (c6 : PySem.W.codeIn K cd6 "_law_made" = true)
    (k6 : PySem.W.keepIn K (.ref f6) = true)
    (a7 : PySem.W.nsIn K mainGlobals "_law_kinds" = some (some (.ref f7)))
    (l7 : K.lookup f7 = some ⟨oc7, od7, .func (PySem.W.fnOf "_law_kinds" "_law_kinds" (defArgs s_law_kinds) (defBody s_law_kinds) (defScope s_law_kinds) .none kV7 dc7 pm7 an7 cd7 ct7), sl7⟩)
    (c7 : PySem.W.codeIn K cd7 "_law_kinds" = true)
    (k7 : PySem.W.keepIn K (.ref f7) = true)
    (a8 : PySem.W.nsIn K mainGlobals "_law_field" = some (some (.ref f8)))
    (l8 : K.lookup f8 = some ⟨oc8, od8, .func (PySem.W.fnOf "_law_field" "_law_field" (defArgs s_law_field) (defBody s_law_field) (defScope s_law_field) .none kV8 dc8 pm8 an8 cd8 ct8), sl8⟩)
    (c8 : PySem.W.codeIn K cd8 "_law_field" = true)
    (k8 : PySem.W.keepIn K (.ref f8) = true)
    (a9 : PySem.W.nsIn K mainGlobals "law" = some (some (.ref f9)))
    (l9 : K.lookup f9 = some ⟨oc9, od9, .func (PySem.W.fnOf "law" "law" (defArgs slaw) (defBody slaw) (defScope slaw) .none kV9 dc9 pm9 an9 cd9 ct9), sl9⟩)
    (c9 : PySem.W.codeIn K cd9 "law" = true)
    (k9 : PySem.W.keepIn K (.ref f9) = true)
    (z0 : PySem.W.nsIn K mainGlobals "len" = some none)
    (z1 : PySem.W.nsIn K mainGlobals "isinstance" = some none)
    (z2 : PySem.W.nsIn K mainGlobals "str" = some none)
    (z3 : PySem.W.nsIn K mainGlobals "all" = some none)
    (z4 : PySem.W.nsIn K mainGlobals "enumerate" = some none)
    (z5 : PySem.W.nsIn K mainGlobals "range" = some none)
    (z6 : PySem.W.nsIn K mainGlobals "bool" = some none)
    (z7 : PySem.W.nsIn K mainGlobals "tuple" = some none)
    (z8 : PySem.W.nsIn K mainGlobals "dict" = some none)
    (z9 : PySem.W.nsIn K mainGlobals "list" = some none)
    (z10 : PySem.W.nsIn K mainGlobals "sorted" = some none)
    (z11 : PySem.W.nsIn K mainGlobals "set" = some none)
    (z12 : PySem.W.nsIn K mainGlobals "zip" = some none)
    (z13 : PySem.W.nsIn K mainGlobals "int" = some none)
    (z14 : PySem.W.nsIn K mainGlobals "min" = some none)
    (z15 : PySem.W.nsIn K mainGlobals "repr" = some none)
    (z16 : PySem.W.nsIn K mainGlobals "ValueError" = some none)
    (z17 : PySem.W.nsIn K mainGlobals "super" = some none)
    (aN : PySem.W.nsIn K mainGlobals "NewError" = some (some (.ref CN)))
    (bN : PySem.W.subIn K (.ref CN) (.type "BaseException") = some true)
    (iN : PySem.W.isClsIn K CN = true)
    (tN : PySem.W.typeIn K (.ref CN) = some (.type "type"))
    (on : PySem.W.specialIn K (.builtin "object.__class__") "__get__" = some (some (.builtin "getset_descriptor.__get__")))
    (ot : PySem.W.takesIn K (.builtin "object.__class__") = some true)
    (ea0 : PySem.W.nsIn K mainGlobals "NoName" = some (some (.ref E0)))
    (ea1 : PySem.W.nsIn K mainGlobals "Twice" = some (some (.ref E1)))
    (ea2 : PySem.W.nsIn K mainGlobals "Missing" = some (some (.ref E2)))
    (ea3 : PySem.W.nsIn K mainGlobals "Held" = some (some (.ref E3)))
    (ea4 : PySem.W.nsIn K mainGlobals "LetGo" = some (some (.ref E4)))
    (ea5 : PySem.W.nsIn K mainGlobals "NoSpare" = some (some (.ref E5)))
    (ea6 : PySem.W.nsIn K mainGlobals "NoRow" = some (some (.ref E6)))
    (eg0 : PySem.W.findIn K (.ref E0) "__getattribute__" = some (some (.builtin "BaseException.__getattribute__")))
    (et0 : PySem.W.findIn K (.ref E0) "__getattr__" = some none)
    (eb0 : PySem.W.subIn K (.ref E0) (.type "BaseException") = some true)
    (eh0 : PySem.W.hasDictIn K E0 = true)
    (ec0 : PySem.W.findIn K (.ref E0) "__class__" = some (some (.builtin "object.__class__")))
    (em0 : PySem.W.mroIn K E0 (.type "object") = some true)
    (es0 : PySem.W.subIn K (.ref E0) (.ref CN) = some true)
    (ev0 : PySem.W.kitOne K (.ref E0) (.type "ValueError") = some true)
    (ey0 : PySem.W.typeIn K (.ref E0) = some (.type "type"))
    (ekp0 : PySem.W.keepIn K (.ref E0) = true)
    (e0_0 : PySem.W.kitOne K (.ref E0) (.ref E0) = some true)
    (e0_1 : PySem.W.kitOne K (.ref E0) (.ref E1) = some false)
    (e0_2 : PySem.W.kitOne K (.ref E0) (.ref E2) = some false)
    (e0_3 : PySem.W.kitOne K (.ref E0) (.ref E3) = some false)
    (e0_4 : PySem.W.kitOne K (.ref E0) (.ref E4) = some false)
    (e0_5 : PySem.W.kitOne K (.ref E0) (.ref E5) = some false)
    (e0_6 : PySem.W.kitOne K (.ref E0) (.ref E6) = some false)
    (enk0 : PySem.W.kitOne K (.ref E0) (.ref CN) = some true)
    (eg1 : PySem.W.findIn K (.ref E1) "__getattribute__" = some (some (.builtin "BaseException.__getattribute__")))
    (et1 : PySem.W.findIn K (.ref E1) "__getattr__" = some none)
    (eb1 : PySem.W.subIn K (.ref E1) (.type "BaseException") = some true)
    (eh1 : PySem.W.hasDictIn K E1 = true)
    (ec1 : PySem.W.findIn K (.ref E1) "__class__" = some (some (.builtin "object.__class__")))
    (em1 : PySem.W.mroIn K E1 (.type "object") = some true)
    (es1 : PySem.W.subIn K (.ref E1) (.ref CN) = some true)
    (ev1 : PySem.W.kitOne K (.ref E1) (.type "ValueError") = some true)
    (ey1 : PySem.W.typeIn K (.ref E1) = some (.type "type"))
    (ekp1 : PySem.W.keepIn K (.ref E1) = true)
    (e1_0 : PySem.W.kitOne K (.ref E1) (.ref E0) = some false)
    (e1_1 : PySem.W.kitOne K (.ref E1) (.ref E1) = some true)
    (e1_2 : PySem.W.kitOne K (.ref E1) (.ref E2) = some false)
    (e1_3 : PySem.W.kitOne K (.ref E1) (.ref E3) = some false)
    (e1_4 : PySem.W.kitOne K (.ref E1) (.ref E4) = some false)
    (e1_5 : PySem.W.kitOne K (.ref E1) (.ref E5) = some false)
    (e1_6 : PySem.W.kitOne K (.ref E1) (.ref E6) = some false)
    (enk1 : PySem.W.kitOne K (.ref E1) (.ref CN) = some true)
    (ef_1 : PySem.W.findIn K (.ref E1) "name" = some none)
    (eg2 : PySem.W.findIn K (.ref E2) "__getattribute__" = some (some (.builtin "BaseException.__getattribute__")))
    (et2 : PySem.W.findIn K (.ref E2) "__getattr__" = some none)
    (eb2 : PySem.W.subIn K (.ref E2) (.type "BaseException") = some true)
    (eh2 : PySem.W.hasDictIn K E2 = true)
    (ec2 : PySem.W.findIn K (.ref E2) "__class__" = some (some (.builtin "object.__class__")))
    (em2 : PySem.W.mroIn K E2 (.type "object") = some true)
    (es2 : PySem.W.subIn K (.ref E2) (.ref CN) = some true)
    (ev2 : PySem.W.kitOne K (.ref E2) (.type "ValueError") = some true)
    (ey2 : PySem.W.typeIn K (.ref E2) = some (.type "type"))
    (ekp2 : PySem.W.keepIn K (.ref E2) = true)
    (e2_0 : PySem.W.kitOne K (.ref E2) (.ref E0) = some false)
    (e2_1 : PySem.W.kitOne K (.ref E2) (.ref E1) = some false)
    (e2_2 : PySem.W.kitOne K (.ref E2) (.ref E2) = some true)
    (e2_3 : PySem.W.kitOne K (.ref E2) (.ref E3) = some false)
    (e2_4 : PySem.W.kitOne K (.ref E2) (.ref E4) = some false)
    (e2_5 : PySem.W.kitOne K (.ref E2) (.ref E5) = some false)
    (e2_6 : PySem.W.kitOne K (.ref E2) (.ref E6) = some false)
    (enk2 : PySem.W.kitOne K (.ref E2) (.ref CN) = some true)
    (ef_2 : PySem.W.findIn K (.ref E2) "name" = some none)
    (eg3 : PySem.W.findIn K (.ref E3) "__getattribute__" = some (some (.builtin "BaseException.__getattribute__")))
    (et3 : PySem.W.findIn K (.ref E3) "__getattr__" = some none)
    (eb3 : PySem.W.subIn K (.ref E3) (.type "BaseException") = some true)
    (eh3 : PySem.W.hasDictIn K E3 = true)
    (ec3 : PySem.W.findIn K (.ref E3) "__class__" = some (some (.builtin "object.__class__")))
    (em3 : PySem.W.mroIn K E3 (.type "object") = some true)
    (es3 : PySem.W.subIn K (.ref E3) (.ref CN) = some true)
    (ev3 : PySem.W.kitOne K (.ref E3) (.type "ValueError") = some true)
    (ey3 : PySem.W.typeIn K (.ref E3) = some (.type "type"))
    (ekp3 : PySem.W.keepIn K (.ref E3) = true)
    (e3_0 : PySem.W.kitOne K (.ref E3) (.ref E0) = some false)
    (e3_1 : PySem.W.kitOne K (.ref E3) (.ref E1) = some false)
    (e3_2 : PySem.W.kitOne K (.ref E3) (.ref E2) = some false)
    (e3_3 : PySem.W.kitOne K (.ref E3) (.ref E3) = some true)
    (e3_4 : PySem.W.kitOne K (.ref E3) (.ref E4) = some false)
    (e3_5 : PySem.W.kitOne K (.ref E3) (.ref E5) = some false)
    (e3_6 : PySem.W.kitOne K (.ref E3) (.ref E6) = some false)
    (enk3 : PySem.W.kitOne K (.ref E3) (.ref CN) = some true)
    (ef_3 : PySem.W.findIn K (.ref E3) "name" = some none)
    (eg4 : PySem.W.findIn K (.ref E4) "__getattribute__" = some (some (.builtin "BaseException.__getattribute__")))
    (et4 : PySem.W.findIn K (.ref E4) "__getattr__" = some none)
    (eb4 : PySem.W.subIn K (.ref E4) (.type "BaseException") = some true)
    (eh4 : PySem.W.hasDictIn K E4 = true)
    (ec4 : PySem.W.findIn K (.ref E4) "__class__" = some (some (.builtin "object.__class__")))
    (em4 : PySem.W.mroIn K E4 (.type "object") = some true)
    (es4 : PySem.W.subIn K (.ref E4) (.ref CN) = some true)
    (ev4 : PySem.W.kitOne K (.ref E4) (.type "ValueError") = some true)
    (ey4 : PySem.W.typeIn K (.ref E4) = some (.type "type"))
    (ekp4 : PySem.W.keepIn K (.ref E4) = true)
    (e4_0 : PySem.W.kitOne K (.ref E4) (.ref E0) = some false)
    (e4_1 : PySem.W.kitOne K (.ref E4) (.ref E1) = some false)
    (e4_2 : PySem.W.kitOne K (.ref E4) (.ref E2) = some false)
    (e4_3 : PySem.W.kitOne K (.ref E4) (.ref E3) = some false)
    (e4_4 : PySem.W.kitOne K (.ref E4) (.ref E4) = some true)
    (e4_5 : PySem.W.kitOne K (.ref E4) (.ref E5) = some false)
    (e4_6 : PySem.W.kitOne K (.ref E4) (.ref E6) = some false)
    (enk4 : PySem.W.kitOne K (.ref E4) (.ref CN) = some true)
    (ef_4 : PySem.W.findIn K (.ref E4) "name" = some none)
    (eg5 : PySem.W.findIn K (.ref E5) "__getattribute__" = some (some (.builtin "BaseException.__getattribute__")))
    (et5 : PySem.W.findIn K (.ref E5) "__getattr__" = some none)
    (eb5 : PySem.W.subIn K (.ref E5) (.type "BaseException") = some true)
    (eh5 : PySem.W.hasDictIn K E5 = true)
    (ec5 : PySem.W.findIn K (.ref E5) "__class__" = some (some (.builtin "object.__class__")))
    (em5 : PySem.W.mroIn K E5 (.type "object") = some true)
    (es5 : PySem.W.subIn K (.ref E5) (.ref CN) = some true)
    (ev5 : PySem.W.kitOne K (.ref E5) (.type "ValueError") = some true)
    (ey5 : PySem.W.typeIn K (.ref E5) = some (.type "type"))
    (ekp5 : PySem.W.keepIn K (.ref E5) = true)
    (e5_0 : PySem.W.kitOne K (.ref E5) (.ref E0) = some false)
    (e5_1 : PySem.W.kitOne K (.ref E5) (.ref E1) = some false)
    (e5_2 : PySem.W.kitOne K (.ref E5) (.ref E2) = some false)
    (e5_3 : PySem.W.kitOne K (.ref E5) (.ref E3) = some false)
    (e5_4 : PySem.W.kitOne K (.ref E5) (.ref E4) = some false)
    (e5_5 : PySem.W.kitOne K (.ref E5) (.ref E5) = some true)
    (e5_6 : PySem.W.kitOne K (.ref E5) (.ref E6) = some false)
    (enk5 : PySem.W.kitOne K (.ref E5) (.ref CN) = some true)
    (ef_5 : PySem.W.findIn K (.ref E5) "ring" = some none)
    (eg6 : PySem.W.findIn K (.ref E6) "__getattribute__" = some (some (.builtin "BaseException.__getattribute__")))
    (et6 : PySem.W.findIn K (.ref E6) "__getattr__" = some none)
    (eb6 : PySem.W.subIn K (.ref E6) (.type "BaseException") = some true)
    (eh6 : PySem.W.hasDictIn K E6 = true)
    (ec6 : PySem.W.findIn K (.ref E6) "__class__" = some (some (.builtin "object.__class__")))
    (em6 : PySem.W.mroIn K E6 (.type "object") = some true)
    (es6 : PySem.W.subIn K (.ref E6) (.ref CN) = some true)
    (ev6 : PySem.W.kitOne K (.ref E6) (.type "ValueError") = some true)
    (ey6 : PySem.W.typeIn K (.ref E6) = some (.type "type"))
    (ekp6 : PySem.W.keepIn K (.ref E6) = true)
    (e6_0 : PySem.W.kitOne K (.ref E6) (.ref E0) = some false)
    (e6_1 : PySem.W.kitOne K (.ref E6) (.ref E1) = some false)
    (e6_2 : PySem.W.kitOne K (.ref E6) (.ref E2) = some false)
    (e6_3 : PySem.W.kitOne K (.ref E6) (.ref E3) = some false)
    (e6_4 : PySem.W.kitOne K (.ref E6) (.ref E4) = some false)
    (e6_5 : PySem.W.kitOne K (.ref E6) (.ref E5) = some false)
    (e6_6 : PySem.W.kitOne K (.ref E6) (.ref E6) = some true)
    (enk6 : PySem.W.kitOne K (.ref E6) (.ref CN) = some true)
    (ef_6 : PySem.W.findIn K (.ref E6) "row" = some none)
    (ex0 : PySem.W.excIn K E0 [.type "ValueError", .type "Exception", .type "BaseException", .type "object"] "ValueError.__new__" = true)
    (htop : (l.prog.main.scope.names.lookup ("super" : Str)).isSome = false)
    (hsta : PySem.W.nsIn K PySem.cStatics "thirdparty.any" = some none)
    (xl1 : K.lookup E1 = some (excClassObj en1 eq1 E1 eN1 ebs1 (.ref CN :: [.type "ValueError", .type "Exception", .type "BaseException", .type "object"]) true esn1 esub1 eab1 ecol1 edd1 ek0_1 ek1_1 ek2_1 ek3_1 ek5_1 "ValueError.__new__"))
    (xs1 : PySem.W.findIn K (.ref E1) "__setattr__" = some (some (.builtin "object.__setattr__")))
    (xi1 : PySem.W.findIn K (.ref E1) "__init__" = some (some (.ref ef1)))
    (xt1 : PySem.W.typeIn K (.ref ef1) = some (.type "function"))
    (xu1 : PySem.W.ks_superIn K E1 E1 "__init__" = some (some (.builtin "ValueError.__init__")))
    (xm1 : PySem.W.mroIn K E1 (.ref E1) = some true)
    (xv1 : PySem.W.subIn K (.ref E1) (.type "ValueError") = some true)
    (xf1 : K.lookup ef1 = some ⟨eoc1, eod1, .func (PySem.W.fnX "__init__" "Twice.__init__" (defArgs sTwice___init__) (defBody sTwice___init__) (defScope sTwice___init__) [("__class__", ecc1)] .none ekV1 edc1 epm1 ean1 (.ref ecda1) ect1), esl1⟩)
    (xc1 : PySem.W.codeIn K (.ref ecda1) "Twice.__init__" = true)
    (xk1 : PySem.W.keepIn K (.ref ef1) = true)
    (xd1 : K.lookup ecda1 = some ⟨eccl1, ecdd1, .fields evs1, eccs1⟩)
    (xe1 : evs1[2]? = some (.str efile1 etf1))
    (xg1 : ((l.prog.main.file : Str) == efile1) = true)
    (xh1 : K.lookup ecc1 = some ⟨ecl1, ecld1, .cell (some (.ref E1)), ecsl1⟩)
    (xl2 : K.lookup E2 = some (excClassObj en2 eq2 E2 eN2 ebs2 (.ref CN :: [.type "ValueError", .type "Exception", .type "BaseException", .type "object"]) true esn2 esub2 eab2 ecol2 edd2 ek0_2 ek1_2 ek2_2 ek3_2 ek5_2 "ValueError.__new__"))
    (xs2 : PySem.W.findIn K (.ref E2) "__setattr__" = some (some (.builtin "object.__setattr__")))
    (xi2 : PySem.W.findIn K (.ref E2) "__init__" = some (some (.ref ef2)))
    (xt2 : PySem.W.typeIn K (.ref ef2) = some (.type "function"))
    (xu2 : PySem.W.ks_superIn K E2 E2 "__init__" = some (some (.builtin "ValueError.__init__")))
    (xm2 : PySem.W.mroIn K E2 (.ref E2) = some true)
    (xv2 : PySem.W.subIn K (.ref E2) (.type "ValueError") = some true)
    (xf2 : K.lookup ef2 = some ⟨eoc2, eod2, .func (PySem.W.fnX "__init__" "Missing.__init__" (defArgs sMissing___init__) (defBody sMissing___init__) (defScope sMissing___init__) [("__class__", ecc2)] .none ekV2 edc2 epm2 ean2 (.ref ecda2) ect2), esl2⟩)
    (xc2 : PySem.W.codeIn K (.ref ecda2) "Missing.__init__" = true)
    (xk2 : PySem.W.keepIn K (.ref ef2) = true)
    (xd2 : K.lookup ecda2 = some ⟨eccl2, ecdd2, .fields evs2, eccs2⟩)
    (xe2 : evs2[2]? = some (.str efile2 etf2))
    (xg2 : ((l.prog.main.file : Str) == efile2) = true)
    (xh2 : K.lookup ecc2 = some ⟨ecl2, ecld2, .cell (some (.ref E2)), ecsl2⟩)
    (xl3 : K.lookup E3 = some (excClassObj en3 eq3 E3 eN3 ebs3 (.ref CN :: [.type "ValueError", .type "Exception", .type "BaseException", .type "object"]) true esn3 esub3 eab3 ecol3 edd3 ek0_3 ek1_3 ek2_3 ek3_3 ek5_3 "ValueError.__new__"))
    (xs3 : PySem.W.findIn K (.ref E3) "__setattr__" = some (some (.builtin "object.__setattr__")))
    (xi3 : PySem.W.findIn K (.ref E3) "__init__" = some (some (.ref ef3)))
    (xt3 : PySem.W.typeIn K (.ref ef3) = some (.type "function"))
    (xu3 : PySem.W.ks_superIn K E3 E3 "__init__" = some (some (.builtin "ValueError.__init__")))
    (xm3 : PySem.W.mroIn K E3 (.ref E3) = some true)
    (xv3 : PySem.W.subIn K (.ref E3) (.type "ValueError") = some true)
    (xf3 : K.lookup ef3 = some ⟨eoc3, eod3, .func (PySem.W.fnX "__init__" "Held.__init__" (defArgs sHeld___init__) (defBody sHeld___init__) (defScope sHeld___init__) [("__class__", ecc3)] .none ekV3 edc3 epm3 ean3 (.ref ecda3) ect3), esl3⟩)
    (xc3 : PySem.W.codeIn K (.ref ecda3) "Held.__init__" = true)
    (xk3 : PySem.W.keepIn K (.ref ef3) = true)
    (xd3 : K.lookup ecda3 = some ⟨eccl3, ecdd3, .fields evs3, eccs3⟩)
    (xe3 : evs3[2]? = some (.str efile3 etf3))
    (xg3 : ((l.prog.main.file : Str) == efile3) = true)
    (xh3 : K.lookup ecc3 = some ⟨ecl3, ecld3, .cell (some (.ref E3)), ecsl3⟩)
    (xl4 : K.lookup E4 = some (excClassObj en4 eq4 E4 eN4 ebs4 (.ref CN :: [.type "ValueError", .type "Exception", .type "BaseException", .type "object"]) true esn4 esub4 eab4 ecol4 edd4 ek0_4 ek1_4 ek2_4 ek3_4 ek5_4 "ValueError.__new__"))
    (xs4 : PySem.W.findIn K (.ref E4) "__setattr__" = some (some (.builtin "object.__setattr__")))
    (xi4 : PySem.W.findIn K (.ref E4) "__init__" = some (some (.ref ef4)))
    (xt4 : PySem.W.typeIn K (.ref ef4) = some (.type "function"))
    (xu4 : PySem.W.ks_superIn K E4 E4 "__init__" = some (some (.builtin "ValueError.__init__")))
    (xm4 : PySem.W.mroIn K E4 (.ref E4) = some true)
    (xv4 : PySem.W.subIn K (.ref E4) (.type "ValueError") = some true)
    (xf4 : K.lookup ef4 = some ⟨eoc4, eod4, .func (PySem.W.fnX "__init__" "LetGo.__init__" (defArgs sLetGo___init__) (defBody sLetGo___init__) (defScope sLetGo___init__) [("__class__", ecc4)] .none ekV4 edc4 epm4 ean4 (.ref ecda4) ect4), esl4⟩)
    (xc4 : PySem.W.codeIn K (.ref ecda4) "LetGo.__init__" = true)
    (xk4 : PySem.W.keepIn K (.ref ef4) = true)
    (xd4 : K.lookup ecda4 = some ⟨eccl4, ecdd4, .fields evs4, eccs4⟩)
    (xe4 : evs4[2]? = some (.str efile4 etf4))
    (xg4 : ((l.prog.main.file : Str) == efile4) = true)
    (xh4 : K.lookup ecc4 = some ⟨ecl4, ecld4, .cell (some (.ref E4)), ecsl4⟩)
    (xl5 : K.lookup E5 = some (excClassObj en5 eq5 E5 eN5 ebs5 (.ref CN :: [.type "ValueError", .type "Exception", .type "BaseException", .type "object"]) true esn5 esub5 eab5 ecol5 edd5 ek0_5 ek1_5 ek2_5 ek3_5 ek5_5 "ValueError.__new__"))
    (xs5 : PySem.W.findIn K (.ref E5) "__setattr__" = some (some (.builtin "object.__setattr__")))
    (xi5 : PySem.W.findIn K (.ref E5) "__init__" = some (some (.ref ef5)))
    (xt5 : PySem.W.typeIn K (.ref ef5) = some (.type "function"))
    (xu5 : PySem.W.ks_superIn K E5 E5 "__init__" = some (some (.builtin "ValueError.__init__")))
    (xm5 : PySem.W.mroIn K E5 (.ref E5) = some true)
    (xv5 : PySem.W.subIn K (.ref E5) (.type "ValueError") = some true)
    (xf5 : K.lookup ef5 = some ⟨eoc5, eod5, .func (PySem.W.fnX "__init__" "NoSpare.__init__" (defArgs sNoSpare___init__) (defBody sNoSpare___init__) (defScope sNoSpare___init__) [("__class__", ecc5)] .none ekV5 edc5 epm5 ean5 (.ref ecda5) ect5), esl5⟩)
    (xc5 : PySem.W.codeIn K (.ref ecda5) "NoSpare.__init__" = true)
    (xk5 : PySem.W.keepIn K (.ref ef5) = true)
    (xd5 : K.lookup ecda5 = some ⟨eccl5, ecdd5, .fields evs5, eccs5⟩)
    (xe5 : evs5[2]? = some (.str efile5 etf5))
    (xg5 : ((l.prog.main.file : Str) == efile5) = true)
    (xh5 : K.lookup ecc5 = some ⟨ecl5, ecld5, .cell (some (.ref E5)), ecsl5⟩)
    (xl6 : K.lookup E6 = some (excClassObj en6 eq6 E6 eN6 ebs6 (.ref CN :: [.type "ValueError", .type "Exception", .type "BaseException", .type "object"]) true esn6 esub6 eab6 ecol6 edd6 ek0_6 ek1_6 ek2_6 ek3_6 ek5_6 "ValueError.__new__"))
    (xs6 : PySem.W.findIn K (.ref E6) "__setattr__" = some (some (.builtin "object.__setattr__")))
    (xi6 : PySem.W.findIn K (.ref E6) "__init__" = some (some (.ref ef6)))
    (xt6 : PySem.W.typeIn K (.ref ef6) = some (.type "function"))
    (xu6 : PySem.W.ks_superIn K E6 E6 "__init__" = some (some (.builtin "ValueError.__init__")))
    (xm6 : PySem.W.mroIn K E6 (.ref E6) = some true)
    (xv6 : PySem.W.subIn K (.ref E6) (.type "ValueError") = some true)
    (xf6 : K.lookup ef6 = some ⟨eoc6, eod6, .func (PySem.W.fnX "__init__" "NoRow.__init__" (defArgs sNoRow___init__) (defBody sNoRow___init__) (defScope sNoRow___init__) [("__class__", ecc6)] .none ekV6 edc6 epm6 ean6 (.ref ecda6) ect6), esl6⟩)
    (xc6 : PySem.W.codeIn K (.ref ecda6) "NoRow.__init__" = true)
    (xk6 : PySem.W.keepIn K (.ref ef6) = true)
    (xd6 : K.lookup ecda6 = some ⟨eccl6, ecdd6, .fields evs6, eccs6⟩)
    (xe6 : evs6[2]? = some (.str efile6 etf6))
    (xg6 : ((l.prog.main.file : Str) == efile6) = true)
    (xh6 : K.lookup ecc6 = some ⟨ecl6, ecld6, .cell (some (.ref E6)), ecsl6⟩)
    : ∃ fd : FuncData, (∀ (s : Shared) (v : Value), BindsTo s fd ⟨[v], []⟩ [("_law_script", v)]) ∧ ∀ base : Heap, K.In base → base.Ns mainGlobals mg → FnOk l.prog w K mg base CX0 7 fa fd ["_law_script"] (spLaw K) := by
  have e := hfa.symm.trans (PySem.W.mg_of X G a9)
  cases e
  have B : Blt mg := blt_mk X G z0 z1 z2 z3 z4 z5 z6 z7 z8 z9 z10 z11 z12 z13 z14 z15 z16 z17
  have F0 := fun_mk (st := s_law_begun) l0 c0 k0
  have b0 := F0.binds (ps := ["_law_script"]) fun _ _ _ _ _ _ us hl => match us, hl with | [_], _ => rfl
  have m0 := PySem.W.mg_of X G a0
  have F1 := fun_mk (st := s_law_mixed) l1 c1 k1
  have b1 := F1.binds (ps := ["_law_state"]) fun _ _ _ _ _ _ us hl => match us, hl with | [_], _ => rfl
  have m1 := PySem.W.mg_of X G a1
  have F2 := fun_mk (st := s_law_take) l2 c2 k2
  have b2 := F2.binds (ps := ["_law_state", "_law_size"]) fun _ _ _ _ _ _ us hl => match us, hl with | [_, _], _ => rfl
  have m2 := PySem.W.mg_of X G a2
  have F3 := fun_mk (st := s_law_pick) l3 c3 k3
  have b3 := F3.binds (ps := ["_law_state", "_law_some"]) fun _ _ _ _ _ _ us hl => match us, hl with | [_, _], _ => rfl
  have m3 := PySem.W.mg_of X G a3
  have F4 := fun_mk (st := s_law_word) l4 c4 k4
  have b4 := F4.binds (ps := ["_law_state"]) fun _ _ _ _ _ _ us hl => match us, hl with | [_], _ => rfl
  have m4 := PySem.W.mg_of X G a4
  have F5 := fun_mk (st := s_law_ring) l5 c5 k5
  have b5 := F5.binds (ps := ["_law_state"]) fun _ _ _ _ _ _ us hl => match us, hl with | [_], _ => rfl
  have m5 := PySem.W.mg_of X G a5
  have F6 := fun_mk (st := s_law_made) l6 c6 k6
  have b6 := F6.binds (ps := ["_law_state"]) fun _ _ _ _ _ _ us hl => match us, hl with | [_], _ => rfl
  have m6 := PySem.W.mg_of X G a6
  have F7 := fun_mk (st := s_law_kinds) l7 c7 k7
  have b7 := F7.binds (ps := ["_law_error"]) fun _ _ _ _ _ _ us hl => match us, hl with | [_], _ => rfl
  have m7 := PySem.W.mg_of X G a7
  have F8 := fun_mk (st := s_law_field) l8 c8 k8
  have b8 := F8.binds (ps := ["_law_error", "_law_at"]) fun _ _ _ _ _ _ us hl => match us, hl with | [_, _], _ => rfl
  have m8 := PySem.W.mg_of X G a8
  have F9 := fun_mk (st := slaw) l9 c9 k9
  let Cs : ErrCs := ⟨E0, E1, E2, E3, E4, E5, E6⟩
  have GW : GWord mg Cs := ⟨PySem.W.mg_of X G ea0, PySem.W.mg_of X G ea1, PySem.W.mg_of X G ea2, PySem.W.mg_of X G ea3, PySem.W.mg_of X G ea4, PySem.W.mg_of X G ea5, PySem.W.mg_of X G ea6⟩
  have Ex0 : ExcC K E0 := ⟨eg0, et0, eb0, eh0, ec0, on, ot, em0⟩
  have Ex1 : ExcC K E1 := ⟨eg1, et1, eb1, eh1, ec1, on, ot, em1⟩
  have Ex2 : ExcC K E2 := ⟨eg2, et2, eb2, eh2, ec2, on, ot, em2⟩
  have Ex3 : ExcC K E3 := ⟨eg3, et3, eb3, eh3, ec3, on, ot, em3⟩
  have Ex4 : ExcC K E4 := ⟨eg4, et4, eb4, eh4, ec4, on, ot, em4⟩
  have Ex5 : ExcC K E5 := ⟨eg5, et5, eb5, eh5, ec5, on, ot, em5⟩
  have Ex6 : ExcC K E6 := ⟨eg6, et6, eb6, eh6, ec6, on, ot, em6⟩
  have Y : ErrK K Cs := ⟨fun i hi => match i, hi with | 0, _ => Ex0 | 1, _ => Ex1 | 2, _ => Ex2 | 3, _ => Ex3 | 4, _ => Ex4 | 5, _ => Ex5 | 6, _ => Ex6, fun i j hi hj => match i, j, hi, hj with | 0, 0, _, _ => e0_0 | 0, 1, _, _ => e0_1 | 0, 2, _, _ => e0_2 | 0, 3, _, _ => e0_3 | 0, 4, _, _ => e0_4 | 0, 5, _, _ => e0_5 | 0, 6, _, _ => e0_6 | 1, 0, _, _ => e1_0 | 1, 1, _, _ => e1_1 | 1, 2, _, _ => e1_2 | 1, 3, _, _ => e1_3 | 1, 4, _, _ => e1_4 | 1, 5, _, _ => e1_5 | 1, 6, _, _ => e1_6 | 2, 0, _, _ => e2_0 | 2, 1, _, _ => e2_1 | 2, 2, _, _ => e2_2 | 2, 3, _, _ => e2_3 | 2, 4, _, _ => e2_4 | 2, 5, _, _ => e2_5 | 2, 6, _, _ => e2_6 | 3, 0, _, _ => e3_0 | 3, 1, _, _ => e3_1 | 3, 2, _, _ => e3_2 | 3, 3, _, _ => e3_3 | 3, 4, _, _ => e3_4 | 3, 5, _, _ => e3_5 | 3, 6, _, _ => e3_6 | 4, 0, _, _ => e4_0 | 4, 1, _, _ => e4_1 | 4, 2, _, _ => e4_2 | 4, 3, _, _ => e4_3 | 4, 4, _, _ => e4_4 | 4, 5, _, _ => e4_5 | 4, 6, _, _ => e4_6 | 5, 0, _, _ => e5_0 | 5, 1, _, _ => e5_1 | 5, 2, _, _ => e5_2 | 5, 3, _, _ => e5_3 | 5, 4, _, _ => e5_4 | 5, 5, _, _ => e5_5 | 5, 6, _, _ => e5_6 | 6, 0, _, _ => e6_0 | 6, 1, _, _ => e6_1 | 6, 2, _, _ => e6_2 | 6, 3, _, _ => e6_3 | 6, 4, _, _ => e6_4 | 6, 5, _, _ => e6_5 | 6, 6, _, _ => e6_6, fun i hi => match i, hi with | 0, _ => ev0 | 1, _ => ev1 | 2, _ => ev2 | 3, _ => ev3 | 4, _ => ev4 | 5, _ => ev5 | 6, _ => ev6, ef_1, ef_2, ef_3, ef_4, ef_5, ef_6⟩
  have YN : ErrN K mg Cs CN := ⟨fun i hi => match i, hi with | 0, _ => exm_of bN iN tN es0 | 1, _ => exm_of bN iN tN es1 | 2, _ => exm_of bN iN tN es2 | 3, _ => exm_of bN iN tN es3 | 4, _ => exm_of bN iN tN es4 | 5, _ => exm_of bN iN tN es5 | 6, _ => exm_of bN iN tN es6, PySem.W.mg_of X G aN⟩
  have RNoName : NoNameC K mg "NoName" Cs.name := ⟨ex0, PySem.W.mg_of X G ea0, ekp0, eb0, ey0⟩
  refine ⟨PySem.W.fnOf "law" "law" (defArgs slaw) (defBody slaw) (defScope slaw) .none kV9 dc9 pm9 an9 cd9 ct9, fun s v => .of_eq rfl, fun base _ _ => ?_⟩
  have SC1 : SupC K E1 := ⟨⟨⟨_, _, _, _, _, _, _, _, _, _, _, _, _, _, _, xl1, by rfl⟩, xs1, eb1, ey1, ekp1⟩, xu1, xm1, xv1, hsta⟩
  have SF1 : SFun l.prog K E1 "__init__" "Twice.__init__" sTwice___init__ ef1 _ := ⟨⟨_, _, _, _, _, _, _, _, _, _, _, _, _, _, _, _, _, _, _, rfl, xf1, xc1, xd1, xe1, xg1, xh1⟩, xk1⟩
  have FX1 : FnOk l.prog w K mg base CX0 1 ef1 _ ["self", "name"] (spErr E1 "name" okT) := (sup_ok (k := 0) (N := ["self", "name", "__class__"]) SF1 SC1 (NdefX.nscope_by (by decide +kernel)) B.super ef_1 rfl (fun A outer s H E cc cda hr => (pe_joined (PJ.cons (pe_fmt (pv 1)) (PJ.cons pe_str PJ.nil)))) (fun _ => rfl) rfl rfl htop rfl rfl rfl rfl (by decide) (by decide) (fun _ => rfl) (fun env h => int_of h rfl) (fun _ => rfl)).imp fun _ _ _ _ => sup_nc (by decide +kernel) "name"
  have RTwice : ErrMk l.prog w K mg base 1 "Twice" E1 "name" okT := ⟨_, _, _, SC1.own, xi1, xt1, FX1, SF1.binds (fun _ _ _ _ _ _ _ us hl => match us, hl with | [_, _], _ => rfl), PySem.W.mg_of X G ea1⟩
  have SC2 : SupC K E2 := ⟨⟨⟨_, _, _, _, _, _, _, _, _, _, _, _, _, _, _, xl2, by rfl⟩, xs2, eb2, ey2, ekp2⟩, xu2, xm2, xv2, hsta⟩
  have SF2 : SFun l.prog K E2 "__init__" "Missing.__init__" sMissing___init__ ef2 _ := ⟨⟨_, _, _, _, _, _, _, _, _, _, _, _, _, _, _, _, _, _, _, rfl, xf2, xc2, xd2, xe2, xg2, xh2⟩, xk2⟩
  have FX2 : FnOk l.prog w K mg base CX0 1 ef2 _ ["self", "name"] (spErr E2 "name" okT) := (sup_ok (k := 0) (N := ["self", "name", "__class__"]) SF2 SC2 (NdefX.nscope_by (by decide +kernel)) B.super ef_2 rfl (fun A outer s H E cc cda hr => (pe_joined (PJ.cons pe_str (PJ.cons (pe_fmt (pv 1)) PJ.nil)))) (fun _ => rfl) rfl rfl htop rfl rfl rfl rfl (by decide) (by decide) (fun _ => rfl) (fun env h => int_of h rfl) (fun _ => rfl)).imp fun _ _ _ _ => sup_cn (by decide +kernel) "name"
  have RMissing : ErrMk l.prog w K mg base 1 "Missing" E2 "name" okT := ⟨_, _, _, SC2.own, xi2, xt2, FX2, SF2.binds (fun _ _ _ _ _ _ _ us hl => match us, hl with | [_, _], _ => rfl), PySem.W.mg_of X G ea2⟩
  have SC3 : SupC K E3 := ⟨⟨⟨_, _, _, _, _, _, _, _, _, _, _, _, _, _, _, xl3, by rfl⟩, xs3, eb3, ey3, ekp3⟩, xu3, xm3, xv3, hsta⟩
  have SF3 : SFun l.prog K E3 "__init__" "Held.__init__" sHeld___init__ ef3 _ := ⟨⟨_, _, _, _, _, _, _, _, _, _, _, _, _, _, _, _, _, _, _, rfl, xf3, xc3, xd3, xe3, xg3, xh3⟩, xk3⟩
  have FX3 : FnOk l.prog w K mg base CX0 1 ef3 _ ["self", "name"] (spErr E3 "name" okT) := (sup_ok (k := 0) (N := ["self", "name", "__class__"]) SF3 SC3 (NdefX.nscope_by (by decide +kernel)) B.super ef_3 rfl (fun A outer s H E cc cda hr => (pe_joined (PJ.cons (pe_fmt (pv 1)) (PJ.cons pe_str PJ.nil)))) (fun _ => rfl) rfl rfl htop rfl rfl rfl rfl (by decide) (by decide) (fun _ => rfl) (fun env h => int_of h rfl) (fun _ => rfl)).imp fun _ _ _ _ => sup_nc (by decide +kernel) "name"
  have RHeld : ErrMk l.prog w K mg base 1 "Held" E3 "name" okT := ⟨_, _, _, SC3.own, xi3, xt3, FX3, SF3.binds (fun _ _ _ _ _ _ _ us hl => match us, hl with | [_, _], _ => rfl), PySem.W.mg_of X G ea3⟩
  have SC4 : SupC K E4 := ⟨⟨⟨_, _, _, _, _, _, _, _, _, _, _, _, _, _, _, xl4, by rfl⟩, xs4, eb4, ey4, ekp4⟩, xu4, xm4, xv4, hsta⟩
  have SF4 : SFun l.prog K E4 "__init__" "LetGo.__init__" sLetGo___init__ ef4 _ := ⟨⟨_, _, _, _, _, _, _, _, _, _, _, _, _, _, _, _, _, _, _, rfl, xf4, xc4, xd4, xe4, xg4, xh4⟩, xk4⟩
  have FX4 : FnOk l.prog w K mg base CX0 1 ef4 _ ["self", "name"] (spErr E4 "name" okT) := (sup_ok (k := 0) (N := ["self", "name", "__class__"]) SF4 SC4 (NdefX.nscope_by (by decide +kernel)) B.super ef_4 rfl (fun A outer s H E cc cda hr => (pe_joined (PJ.cons (pe_fmt (pv 1)) (PJ.cons pe_str PJ.nil)))) (fun _ => rfl) rfl rfl htop rfl rfl rfl rfl (by decide) (by decide) (fun _ => rfl) (fun env h => int_of h rfl) (fun _ => rfl)).imp fun _ _ _ _ => sup_nc (by decide +kernel) "name"
  have RLetGo : ErrMk l.prog w K mg base 1 "LetGo" E4 "name" okT := ⟨_, _, _, SC4.own, xi4, xt4, FX4, SF4.binds (fun _ _ _ _ _ _ _ us hl => match us, hl with | [_, _], _ => rfl), PySem.W.mg_of X G ea4⟩
  have SC5 : SupC K E5 := ⟨⟨⟨_, _, _, _, _, _, _, _, _, _, _, _, _, _, _, xl5, by rfl⟩, xs5, eb5, ey5, ekp5⟩, xu5, xm5, xv5, hsta⟩
  have SF5 : SFun l.prog K E5 "__init__" "NoSpare.__init__" sNoSpare___init__ ef5 _ := ⟨⟨_, _, _, _, _, _, _, _, _, _, _, _, _, _, _, _, _, _, _, rfl, xf5, xc5, xd5, xe5, xg5, xh5⟩, xk5⟩
  have FX5 : FnOk l.prog w K mg base CX0 1 ef5 _ ["self", "ring"] (spErr E5 "ring" (okR K)) := (sup_ok (k := 0) (N := ["self", "ring", "__class__"]) SF5 SC5 (NdefX.nscope_by (by decide +kernel)) B.super ef_5 rfl (fun A outer s H E cc cda hr => (pe_joined (PJ.cons pe_str (PJ.cons (pe_fmtT hr (pv 1)) PJ.nil)))) (fun _ => rfl) rfl rfl htop rfl rfl rfl rfl (by decide) (by decide) (fun _ => rfl) (fun env h => int_of h rfl) (fun _ => rfl)).imp fun _ _ _ _ => sup_cR (by decide +kernel) "ring"
  have RNoSpare : ErrMk l.prog w K mg base 1 "NoSpare" E5 "ring" (okR K) := ⟨_, _, _, SC5.own, xi5, xt5, FX5, SF5.binds (fun _ _ _ _ _ _ _ us hl => match us, hl with | [_, _], _ => rfl), PySem.W.mg_of X G ea5⟩
  have SC6 : SupC K E6 := ⟨⟨⟨_, _, _, _, _, _, _, _, _, _, _, _, _, _, _, xl6, by rfl⟩, xs6, eb6, ey6, ekp6⟩, xu6, xm6, xv6, hsta⟩
  have SF6 : SFun l.prog K E6 "__init__" "NoRow.__init__" sNoRow___init__ ef6 _ := ⟨⟨_, _, _, _, _, _, _, _, _, _, _, _, _, _, _, _, _, _, _, rfl, xf6, xc6, xd6, xe6, xg6, xh6⟩, xk6⟩
  have FX6 : FnOk l.prog w K mg base CX0 1 ef6 _ ["self", "row"] (spErr E6 "row" okJ) := (sup_ok (k := 0) (N := ["self", "row", "__class__"]) SF6 SC6 (NdefX.nscope_by (by decide +kernel)) B.super ef_6 rfl (fun A outer s H E cc cda hr => (pe_joined (PJ.cons pe_str (PJ.cons (pe_fmt (pv 1)) (PJ.cons pe_str PJ.nil))))) (fun _ => rfl) rfl rfl htop rfl rfl rfl rfl (by decide) (by decide) (fun _ => rfl) (fun env h => int_of h rfl) (fun _ => rfl)).imp fun _ _ _ _ => sup_cIc (by decide +kernel) (by decide +kernel) "row"
  have RNoRow : ErrMk l.prog w K mg base 1 "NoRow" E6 "row" okJ := ⟨_, _, _, SC6.own, xi6, xt6, FX6, SF6.binds (fun _ _ _ _ _ _ _ us hl => match us, hl with | [_, _], _ => rfl), PySem.W.mg_of X G ea6⟩
  have c_law_begun : Cl l.prog w K mg base 1 "_law_begun" (spBegun K) := ⟨_, _, _, ok__law_begun F0 B, m0, k0, b0⟩
  have c_law_mixed : Cl l.prog w K mg base 1 "_law_mixed" spMixed := ⟨_, _, _, ok__law_mixed F1 B, m1, k1, b1⟩
  have c_law_take : Cl l.prog w K mg base 2 "_law_take" spTake := ⟨_, _, _, ok__law_take F2 B ⟨c_law_mixed⟩, m2, k2, b2⟩
  have c_law_pick : Cl l.prog w K mg base 3 "_law_pick" (spPick K) := ⟨_, _, _, ok__law_pick F3 B ⟨c_law_take⟩, m3, k3, b3⟩
  have c_pickS : Cl l.prog w K mg base 3 "_law_pick" spPickS := ⟨_, _, _, ok__law_pickS F3 B ⟨c_law_take⟩, m3, k3, b3⟩
  have c_law_word : Cl l.prog w K mg base 4 "_law_word" spWord := ⟨_, _, _, ok__law_word F4 B ⟨c_law_take, c_pickS⟩, m4, k4, b4⟩
  have c_law_ring : Cl l.prog w K mg base 5 "_law_ring" spRing17 := ⟨_, _, _, ok__law_ring F5 B ⟨c_law_take, c_law_word⟩, m5, k5, b5⟩
  have c_law_made : Cl l.prog w K mg base 6 "_law_made" (spMade Cs) := ⟨_, _, _, ok__law_made F6 B ⟨RNoName, RTwice, RMissing, RHeld, RLetGo, RNoSpare, RNoRow⟩ ⟨c_law_take, c_law_pick, c_law_word, c_law_ring⟩, m6, k6, b6⟩
  have c_law_kinds : Cl l.prog w K mg base 1 "_law_kinds" (spKinds Cs) := ⟨_, _, _, ok__law_kinds F7 B Y GW, m7, k7, b7⟩
  have c_law_field : Cl l.prog w K mg base 1 "_law_field" (spField Cs) := ⟨_, _, _, ok__law_field F8 B Y, m8, k8, b8⟩
  have NK : NewK K mg Cs CN := ⟨fun i hi => match i, hi with | 0, _ => enk0 | 1, _ => enk1 | 2, _ => enk2 | 3, _ => enk3 | 4, _ => enk4 | 5, _ => enk5 | 6, _ => enk6, PySem.W.mg_of X G aN⟩
  exact ok_law F9 B Y NK ⟨c_law_begun, c_law_made, c_law_kinds, c_law_field⟩
end Nn
open PySem PySem.W PyProof.Rows
set_option maxRecDepth 100000 in
set_option maxHeartbeats 0 in
theorem PySem.Challenge.cw_newnames_k17_refusals_made_holds : PySem.Challenge.rw_newnames_k17_refusals_made.Holds := by
  w_on; o_law; k_head; (case hw => w_witness2)
  k_fill
  refine L2.walk_of (l := PySem.Challenge.rw_newnames_k17_refusals_made) (n := 63) (k := 7) (x := "_law_script") (CX := fun _ => L2.CX0) (sp := fun w => Nn.spLaw _) rfl (by decide) rfl ⟨rfl, by decide, by decide⟩ (fun w h Y => PySem.W.kIn_of Y) ?F (fun _ _ a ns hl _ hS => ⟨a, ns, rfl, hS, hl, fun _ => rfl⟩) (fun _ _ _ _ _ h => h)
  case F =>
    intro w mg fa h KX G hmg
    refine' Nn.all_mk KX G hmg ?a0 ?l0 ?c0 ?k0 ?a1 ?l1 ?c1 ?k1 ?a2 ?l2 ?c2 ?k2 ?a3 ?l3 ?c3 ?k3 ?a4 ?l4 ?c4 ?k4 ?a5 ?l5 ?c5 ?k5 ?a6 ?l6 ?c6 ?k6 ?a7 ?l7 ?c7 ?k7 ?a8 ?l8 ?c8 ?k8 ?a9 ?l9 ?c9 ?k9 ?z0 ?z1 ?z2 ?z3 ?z4 ?z5 ?z6 ?z7 ?z8 ?z9 ?z10 ?z11 ?z12 ?z13 ?z14 ?z15 ?z16 ?z17 ?aN ?bN ?iN ?tN ?on ?ot ?ea0 ?ea1 ?ea2 ?ea3 ?ea4 ?ea5 ?ea6 ?eg0 ?et0 ?eb0 ?eh0 ?ec0 ?em0 ?es0 ?ev0 ?ey0 ?ekp0 ?e0_0 ?e0_1 ?e0_2 ?e0_3 ?e0_4 ?e0_5 ?e0_6 ?enk0 ?eg1 ?et1 ?eb1 ?eh1 ?ec1 ?em1 ?es1 ?ev1 ?ey1 ?ekp1 ?e1_0 ?e1_1 ?e1_2 ?e1_3 ?e1_4 ?e1_5 ?e1_6 ?enk1 ?ef_1 ?eg2 ?et2 ?eb2 ?eh2 ?ec2 ?em2 ?es2 ?ev2 ?ey2 ?ekp2 ?e2_0 ?e2_1 ?e2_2 ?e2_3 ?e2_4 ?e2_5 ?e2_6 ?enk2 ?ef_2 ?eg3 ?et3 ?eb3 ?eh3 ?ec3 ?em3 ?es3 ?ev3 ?ey3 ?ekp3 ?e3_0 ?e3_1 ?e3_2 ?e3_3 ?e3_4 ?e3_5 ?e3_6 ?enk3 ?ef_3 ?eg4 ?et4 ?eb4 ?eh4 ?ec4 ?em4 ?es4 ?ev4 ?ey4 ?ekp4 ?e4_0 ?e4_1 ?e4_2 ?e4_3 ?e4_4 ?e4_5 ?e4_6 ?enk4 ?ef_4 ?eg5 ?et5 ?eb5 ?eh5 ?ec5 ?em5 ?es5 ?ev5 ?ey5 ?ekp5 ?e5_0 ?e5_1 ?e5_2 ?e5_3 ?e5_4 ?e5_5 ?e5_6 ?enk5 ?ef_5 ?eg6 ?et6 ?eb6 ?eh6 ?ec6 ?em6 ?es6 ?ev6 ?ey6 ?ekp6 ?e6_0 ?e6_1 ?e6_2 ?e6_3 ?e6_4 ?e6_5 ?e6_6 ?enk6 ?ef_6 ?ex0 ?htop ?hsta ?xl1 ?xs1 ?xi1 ?xt1 ?xu1 ?xm1 ?xv1 ?xf1 ?xc1 ?xk1 ?xd1 ?xe1 ?xg1 ?xh1 ?xl2 ?xs2 ?xi2 ?xt2 ?xu2 ?xm2 ?xv2 ?xf2 ?xc2 ?xk2 ?xd2 ?xe2 ?xg2 ?xh2 ?xl3 ?xs3 ?xi3 ?xt3 ?xu3 ?xm3 ?xv3 ?xf3 ?xc3 ?xk3 ?xd3 ?xe3 ?xg3 ?xh3 ?xl4 ?xs4 ?xi4 ?xt4 ?xu4 ?xm4 ?xv4 ?xf4 ?xc4 ?xk4 ?xd4 ?xe4 ?xg4 ?xh4 ?xl5 ?xs5 ?xi5 ?xt5 ?xu5 ?xm5 ?xv5 ?xf5 ?xc5 ?xk5 ?xd5 ?xe5 ?xg5 ?xh5 ?xl6 ?xs6 ?xi6 ?xt6 ?xu6 ?xm6 ?xv6 ?xf6 ?xc6 ?xk6 ?xd6 ?xe6 ?xg6 ?xh6
    (case a0 => k_is)
    (case l0 => k_is)
    (case c0 => k_is)
    (case k0 => k_is)
    (case a1 => k_is)
    (case l1 => k_is)
    (case c1 => k_is)
    (case k1 => k_is)
    (case a2 => k_is)
    (case l2 => k_is)
    (case c2 => k_is)
    (case k2 => k_is)
    (case a3 => k_is)
    (case l3 => k_is)
    (case c3 => k_is)
    (case k3 => k_is)
    (case a4 => k_is)
    (case l4 => k_is)
    (case c4 => k_is)
    (case k4 => k_is)
    (case a5 => k_is)
    (case l5 => k_is)
    (case c5 => k_is)
    (case k5 => k_is)
    (case a6 => k_is)
    (case l6 => k_is)
    (case c6 => k_is)
    (case k6 => k_is)
    (case a7 => k_is)
    (case l7 => k_is)
    (case c7 => k_is)
    (case k7 => k_is)
    (case a8 => k_is)
    (case l8 => k_is)
    (case c8 => k_is)
    (case k8 => k_is)
    (case a9 => k_is)
    (case l9 => k_is)
    (case c9 => k_is)
    (case k9 => k_is)
    (case z0 => k_is)
    (case z1 => k_is)
    (case z2 => k_is)
    (case z3 => k_is)
    (case z4 => k_is)
    (case z5 => k_is)
    (case z6 => k_is)
    (case z7 => k_is)
    (case z8 => k_is)
    (case z9 => k_is)
    (case z10 => k_is)
    (case z11 => k_is)
    (case z12 => k_is)
    (case z13 => k_is)
    (case z14 => k_is)
    (case z15 => k_is)
    (case z16 => k_is)
    (case z17 => k_is)
    (case aN => k_is)
    (case bN => k_is)
    (case iN => k_is)
    (case tN => k_is)
    (case on => k_is)
    (case ot => k_is)
    (case ea0 => k_is)
    (case ea1 => k_is)
    (case ea2 => k_is)
    (case ea3 => k_is)
    (case ea4 => k_is)
    (case ea5 => k_is)
    (case ea6 => k_is)
    (case eg0 => k_is)
    (case et0 => k_is)
    (case eb0 => k_is)
    (case eh0 => k_is)
    (case ec0 => k_is)
    (case em0 => k_is)
    (case es0 => k_is)
    (case ev0 => kit_is)
    (case ey0 => k_is)
    (case ekp0 => k_is)
    (case e0_0 => kit_is)
    (case e0_1 => kit_is)
    (case e0_2 => kit_is)
    (case e0_3 => kit_is)
    (case e0_4 => kit_is)
    (case e0_5 => kit_is)
    (case e0_6 => kit_is)
    (case enk0 => kit_is)
    (case eg1 => k_is)
    (case et1 => k_is)
    (case eb1 => k_is)
    (case eh1 => k_is)
    (case ec1 => k_is)
    (case em1 => k_is)
    (case es1 => k_is)
    (case ev1 => kit_is)
    (case ey1 => k_is)
    (case ekp1 => k_is)
    (case e1_0 => kit_is)
    (case e1_1 => kit_is)
    (case e1_2 => kit_is)
    (case e1_3 => kit_is)
    (case e1_4 => kit_is)
    (case e1_5 => kit_is)
    (case e1_6 => kit_is)
    (case enk1 => kit_is)
    (case ef_1 => k_is)
    (case eg2 => k_is)
    (case et2 => k_is)
    (case eb2 => k_is)
    (case eh2 => k_is)
    (case ec2 => k_is)
    (case em2 => k_is)
    (case es2 => k_is)
    (case ev2 => kit_is)
    (case ey2 => k_is)
    (case ekp2 => k_is)
    (case e2_0 => kit_is)
    (case e2_1 => kit_is)
    (case e2_2 => kit_is)
    (case e2_3 => kit_is)
    (case e2_4 => kit_is)
    (case e2_5 => kit_is)
    (case e2_6 => kit_is)
    (case enk2 => kit_is)
    (case ef_2 => k_is)
    (case eg3 => k_is)
    (case et3 => k_is)
    (case eb3 => k_is)
    (case eh3 => k_is)
    (case ec3 => k_is)
    (case em3 => k_is)
    (case es3 => k_is)
    (case ev3 => kit_is)
    (case ey3 => k_is)
    (case ekp3 => k_is)
    (case e3_0 => kit_is)
    (case e3_1 => kit_is)
    (case e3_2 => kit_is)
    (case e3_3 => kit_is)
    (case e3_4 => kit_is)
    (case e3_5 => kit_is)
    (case e3_6 => kit_is)
    (case enk3 => kit_is)
    (case ef_3 => k_is)
    (case eg4 => k_is)
    (case et4 => k_is)
    (case eb4 => k_is)
    (case eh4 => k_is)
    (case ec4 => k_is)
    (case em4 => k_is)
    (case es4 => k_is)
    (case ev4 => kit_is)
    (case ey4 => k_is)
    (case ekp4 => k_is)
    (case e4_0 => kit_is)
    (case e4_1 => kit_is)
    (case e4_2 => kit_is)
    (case e4_3 => kit_is)
    (case e4_4 => kit_is)
    (case e4_5 => kit_is)
    (case e4_6 => kit_is)
    (case enk4 => kit_is)
    (case ef_4 => k_is)
    (case eg5 => k_is)
    (case et5 => k_is)
    (case eb5 => k_is)
    (case eh5 => k_is)
    (case ec5 => k_is)
    (case em5 => k_is)
    (case es5 => k_is)
    (case ev5 => kit_is)
    (case ey5 => k_is)
    (case ekp5 => k_is)
    (case e5_0 => kit_is)
    (case e5_1 => kit_is)
    (case e5_2 => kit_is)
    (case e5_3 => kit_is)
    (case e5_4 => kit_is)
    (case e5_5 => kit_is)
    (case e5_6 => kit_is)
    (case enk5 => kit_is)
    (case ef_5 => k_is)
    (case eg6 => k_is)
    (case et6 => k_is)
    (case eb6 => k_is)
    (case eh6 => k_is)
    (case ec6 => k_is)
    (case em6 => k_is)
    (case es6 => k_is)
    (case ev6 => kit_is)
    (case ey6 => k_is)
    (case ekp6 => k_is)
    (case e6_0 => kit_is)
    (case e6_1 => kit_is)
    (case e6_2 => kit_is)
    (case e6_3 => kit_is)
    (case e6_4 => kit_is)
    (case e6_5 => kit_is)
    (case e6_6 => kit_is)
    (case enk6 => kit_is)
    (case ef_6 => k_is)
    (case ex0 => first | k_is | kx_is | kernel_rfl)
    (case htop => first | rfl | decide +kernel)
    (case hsta => k_is)
    (case xl1 => k_is)
    (case xs1 => k_is)
    (case xi1 => k_is)
    (case xt1 => k_is)
    (case xu1 => ks_is)
    (case xm1 => k_is)
    (case xv1 => k_is)
    (case xf1 => k_is)
    (case xc1 => k_is)
    (case xk1 => k_is)
    (case xd1 => k_is)
    (case xe1 => rfl)
    (case xg1 => first | rfl | decide +kernel)
    (case xh1 => k_is)
    (case xl2 => k_is)
    (case xs2 => k_is)
    (case xi2 => k_is)
    (case xt2 => k_is)
    (case xu2 => ks_is)
    (case xm2 => k_is)
    (case xv2 => k_is)
    (case xf2 => k_is)
    (case xc2 => k_is)
    (case xk2 => k_is)
    (case xd2 => k_is)
    (case xe2 => rfl)
    (case xg2 => first | rfl | decide +kernel)
    (case xh2 => k_is)
    (case xl3 => k_is)
    (case xs3 => k_is)
    (case xi3 => k_is)
    (case xt3 => k_is)
    (case xu3 => ks_is)
    (case xm3 => k_is)
    (case xv3 => k_is)
    (case xf3 => k_is)
    (case xc3 => k_is)
    (case xk3 => k_is)
    (case xd3 => k_is)
    (case xe3 => rfl)
    (case xg3 => first | rfl | decide +kernel)
    (case xh3 => k_is)
    (case xl4 => k_is)
    (case xs4 => k_is)
    (case xi4 => k_is)
    (case xt4 => k_is)
    (case xu4 => ks_is)
    (case xm4 => k_is)
    (case xv4 => k_is)
    (case xf4 => k_is)
    (case xc4 => k_is)
    (case xk4 => k_is)
    (case xd4 => k_is)
    (case xe4 => rfl)
    (case xg4 => first | rfl | decide +kernel)
    (case xh4 => k_is)
    (case xl5 => k_is)
    (case xs5 => k_is)
    (case xi5 => k_is)
    (case xt5 => k_is)
    (case xu5 => ks_is)
    (case xm5 => k_is)
    (case xv5 => k_is)
    (case xf5 => k_is)
    (case xc5 => k_is)
    (case xk5 => k_is)
    (case xd5 => k_is)
    (case xe5 => rfl)
    (case xg5 => first | rfl | decide +kernel)
    (case xh5 => k_is)
    (case xl6 => k_is)
    (case xs6 => k_is)
    (case xi6 => k_is)
    (case xt6 => k_is)
    (case xu6 => ks_is)
    (case xm6 => k_is)
    (case xv6 => k_is)
    (case xf6 => k_is)
    (case xc6 => k_is)
    (case xk6 => k_is)
    (case xd6 => k_is)
    (case xe6 => rfl)
    (case xg6 => first | rfl | decide +kernel)
    (case xh6 => k_is)
