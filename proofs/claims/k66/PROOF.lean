import PyProof.Rows.All
import Wide.All
import OpenK.AllK
import Wide.FinOn
import HandS.ForMost
import HandS.Style
import HandS.Wide
import HandS.IsInst
import HandS.Flow
import HandS.Walk
import HandS.Evl
import PyProof.ReprRoads
import HandS.SetFor
import HandS.Strs
import HandS.Small
import HandS.Conv
import KE.DataCmp
import HandS.SortKw
import HandS.More
import HandS.TryOnly
import KE.LtData
import HandS.NamedTupSort
import KE.DatumOrd
import KE.GoesEnum
import KE.LtSeq
import HandS.Text
import HandS.StrMore
import PySem.Challenge.RW_backlinks_k66_logs_and_chains_written
set_option Elab.async false
set_option linter.all false
set_option maxRecDepth 100000
set_option maxHeartbeats 40000000
namespace VB
open PySem PySem.Spec PyProof.Rows L2

/-! ### heaps: what is kept, what is owned -/
structure Tr (M : List Addr) (H0 H : Hp) (W : List (Addr × HO)) : Prop where
  fr : ∀ a o, H0 a = some o → a ∉ M → H a = some o
  own : ∀ e ∈ W, H e.1 = some e.2
  nd : (W.map Prod.fst).Nodup
  ow : ∀ e ∈ W, H0 e.1 = none ∨ e.1 ∈ M

section
variable {M : List Addr} {H0 H H' : Hp} {W R : List (Addr × HO)} {p v : Addr} {o o' : HO}
theorem Tr.refl : Tr [] H H [] := ⟨fun _ _ h _ => h, fun _ h => by simp at h, by simp, fun _ h => by simp at h⟩
theorem Tr.one (h : H v = some o) : Tr [v] H H [(v, o)] :=
  ⟨fun _ _ h _ => h, fun e he => by simp at he; subst he; exact h, by simp, fun e he => by simp at he; subst he; simp⟩
theorem Tr.new (S : Tr M H0 H W) (hp : H p = none) : Tr M H0 (upd H p o) ((p, o) :: W) := by
  have ne : ∀ b u, H b = some u → b ≠ p := fun b u h => ne_of_none h hp
  refine ⟨fun a u h n => ?_, fun e he => ?_, ?_, fun e he => ?_⟩
  · rw [upd_ne (ne a u (S.fr a u h n))]; exact S.fr a u h n
  · rcases List.mem_cons.mp he with rfl | he
    · exact upd_same
    · rw [upd_ne (ne _ _ (S.own e he))]; exact S.own e he
  · rw [List.map_cons, List.nodup_cons]
    refine ⟨fun hm => ?_, S.nd⟩
    obtain ⟨e, he, e1⟩ := List.mem_map.mp hm
    exact ne _ _ (S.own e he) e1
  · rcases List.mem_cons.mp he with rfl | he
    · by_cases hm : p ∈ M
      · exact .inr hm
      · cases q : H0 p with
        | none => exact .inl rfl
        | some u => have := S.fr p u q hm; rw [hp] at this; cases this
    · exact S.ow e he
theorem Tr.sub (S : Tr M H0 H W) (h : R.Sublist W) : Tr M H0 H R :=
  ⟨S.fr, fun e he => S.own e (h.subset he), S.nd.sublist (h.map _), fun e he => S.ow e (h.subset he)⟩
theorem Tr.perm (S : Tr M H0 H W) (h : W.Perm R) : Tr M H0 H R :=
  ⟨S.fr, fun e he => S.own e (h.mem_iff.mpr he), (h.map _).nodup_iff.mp S.nd, fun e he => S.ow e (h.mem_iff.mpr he)⟩
theorem Tr.drop {e : Addr × HO} (S : Tr M H0 H (e :: W)) : Tr M H0 H W := S.sub (List.sublist_cons_self e W)
theorem Tr.putN (S : Tr M H0 H W) (n : Nat) (h : W[n]? = some (p, o)) : Tr M H0 (upd H p o') (W.set n (p, o')) := by
  obtain ⟨hn, he⟩ := List.getElem?_eq_some_iff.mp h
  have hmem : (p, o) ∈ W := he ▸ List.getElem_mem hn
  have nd2 : (W.set n (p, o')).map Prod.fst = W.map Prod.fst := by
    rw [List.map_set]
    apply List.ext_getElem?
    intro i
    by_cases hi : n = i
    · subst hi
      rw [List.getElem?_set_self (by simpa using hn), List.getElem?_map, h]; rfl
    · rw [List.getElem?_set_ne hi]
  have inn : ∀ e ∈ W.set n (p, o'), e = (p, o') ∨ (e ∈ W ∧ e.1 ≠ p) := by
    intro e hm
    obtain ⟨i, hi, e1⟩ := List.mem_iff_getElem.mp hm
    by_cases hin : n = i
    · subst hin; left; rw [← e1]; simp
    · right
      have e2 : W[i]? = some e := by
        rw [← List.getElem?_set_ne (l := W) (a := (p, o')) hin, List.getElem?_eq_getElem hi, e1]
      obtain ⟨h3, h4⟩ := List.getElem?_eq_some_iff.mp e2
      refine ⟨h4 ▸ List.getElem_mem h3, fun e5 => hin ?_⟩
      have q1 : (W.map Prod.fst)[n]? = some p := by rw [List.getElem?_map, h]; rfl
      have q2 : (W.map Prod.fst)[i]? = some p := by rw [List.getElem?_map, e2]; simp [e5]
      obtain ⟨b1, c1⟩ := List.getElem?_eq_some_iff.mp q1
      obtain ⟨b2, c2⟩ := List.getElem?_eq_some_iff.mp q2
      exact (List.getElem_inj S.nd).mp (c1.trans c2.symm)
  refine ⟨fun a u h0 nm => ?_, fun e hm => ?_, ?_, fun e hm => ?_⟩
  · have na : a ≠ p := fun z => by
      subst z
      rcases S.ow _ hmem with z | z
      · rw [h0] at z; cases z
      · exact nm z
    rw [upd_ne na]; exact S.fr a u h0 nm
  · rcases inn e hm with rfl | ⟨h1, h2⟩
    · exact upd_same
    · rw [upd_ne h2]; exact S.own e h1
  · rw [nd2]; exact S.nd
  · rcases inn e hm with rfl | ⟨h1, h2⟩
    · exact S.ow (p, o) hmem
    · exact S.ow e h1
theorem Tr.get (S : Tr M H0 H W) (n : Nat) (h : W[n]? = some (p, o)) : H p = some o := by
  obtain ⟨hn, he⟩ := List.getElem?_eq_some_iff.mp h
  exact S.own (p, o) (he ▸ List.getElem_mem hn)
/-- behind a callee that changes nothing and gives R -/
theorem Tr.call (S : Tr M H0 H W) (C : Tr [] H H' R) : Tr M H0 H' (R ++ W) := by
  refine ⟨fun a u h n => C.fr a u (S.fr a u h n) (by simp), fun e he => ?_, ?_, fun e he => ?_⟩
  · rcases List.mem_append.mp he with he | he
    · exact C.own e he
    · exact C.fr _ _ (S.own e he) (by simp)
  · rw [List.map_append, List.nodup_append]
    refine ⟨C.nd, S.nd, fun a ha b hb e => ?_⟩
    subst e
    obtain ⟨x, hx, e1⟩ := List.mem_map.mp ha
    obtain ⟨y, hy, e2⟩ := List.mem_map.mp hb
    have h1 := S.own y hy
    rcases C.ow x hx with h2 | h2
    · rw [e1, ← e2, h1] at h2; cases h2
    · simp at h2
  · rcases List.mem_append.mp he with he | he
    · rcases C.ow e he with h2 | h2
      · by_cases hm : e.1 ∈ M
        · exact .inr hm
        · cases q : H0 e.1 with
          | none => exact .inl rfl
          | some u => have := S.fr _ u q hm; rw [h2] at this; cases this
      · simp at h2
    · exact S.ow e he
/-- behind a callee that changes what stands at v -/
theorem Tr.call1 (S : Tr M H0 H W) (n : Nat) (h : W[n]? = some (v, o)) (C : Tr [v] H H' ((v, o') :: R)) : Tr M H0 H' (R ++ W.set n (v, o')) := by
  have S1 : Tr M H0 (upd H v o') (W.set n (v, o')) := S.putN n h
  have hv := S.get n h
  have C1 : Tr [] (upd H v o') H' R := by
    refine ⟨fun a u ha _ => ?_, fun e he => C.own e (List.mem_cons_of_mem _ he), (List.nodup_cons.mp C.nd).2, fun e he => ?_⟩
    · by_cases e : a = v
      · subst e; rw [upd_same] at ha; cases ha; exact C.own (a, o') (List.mem_cons_self ..)
      · rw [upd_ne e] at ha; exact C.fr a u ha (by simpa using e)
    · rcases C.ow e (List.mem_cons_of_mem _ he) with z | z
      · left
        have ne : e.1 ≠ v := fun q => by rw [q, hv] at z; cases z
        rw [upd_ne ne]; exact z
      · exfalso
        have q : e.1 = v := by simpa using z
        have nd := (List.nodup_cons.mp C.nd).1
        exact nd (List.mem_map.mpr ⟨e, he, q⟩)
  exact S1.call C1
theorem Tr.trans (S : Tr [] H0 H W) (C : Tr [] H H' R) : Tr [] H0 H' (R ++ W) := S.call C
end
end VB

namespace VB
open PySem PySem.Spec PyProof.Rows L2 Att

/-! ### a def's promise where no repr is under way around the call -/
structure GFn (P : Program) (w : World) (K : PySem.W.Frag) (mg : Str → Option Value) (base : Heap) (CX : CXT) (k : Nat) (f : Addr) (fd : FuncData) (ps : List Str) (sp : Sp) : Prop where
  len : ∀ vs H Q E, sp vs H Q E → vs.length = ps.length
  run : ∀ (A : Around) (fr : List Env) (s : Shared) (H : Hp) (as : Args) (us : List Value) (vs : List V) (Q : VK) (E : XK), A.guards = some [] → Room k A →
    Env0 P w K mg base A fr s H → BindsTo s fd as (ps.zip us) → Vals vs us → sp vs H Q E → codeAny (model P w) A (.call (.ref f) as) (CR CX fr P w H s Q E) s
section
variable {P : Program} {w : World} {K : PySem.W.Frag} {mg : Str → Option Value} {base : Heap} {CX : CXT}
theorem GFn.up {j k : Nat} {f : Addr} {fd : FuncData} {ps : List Str} {sp : Sp} (F : GFn P w K mg base CX j f fd ps sp) (h : j ≤ k) : GFn P w K mg base CX k f fd ps sp :=
  ⟨F.len, fun A fr s H as us vs Q E hG hr => F.run A fr s H as us vs Q E hG (hr.mono h)⟩

/-- a def of the text by its body -/
theorem gfn_of {k : Nat} {x qual : Str} {st : Stmt} {f : Addr} {fd : FuncData} {N ps : List Str} {sp : Sp} (F : Fun K x qual st f fd) (S : FnScope N ps (defScope st))
    (len : ∀ vs H Q E, sp vs H Q E → vs.length = ps.length)
    (body : ∀ (cdv : Value) (A : Around) (fr : List Env) (s : Shared) (H : Hp) (vs : List V) (Q : VK) (E : XK), A.guards = some [] →
      Room k (A.deeper (envOfC qual (defScope st) s.heap.objs.size f cdv)) → sp vs H Q E →
      ∃ t, PSs (cxOf CX P w K mg base N qual (defScope st) f cdv A fr s H E) (defBody st) t ∧ t { nx := fun _ H' => Q .non H', rt := Q } (start N vs) H) :
    GFn P w K mg base CX (k + 1) f fd ps sp := by
  obtain ⟨oc, od, kV, doc, pm, an, cdv, ct, osl, rfl, lk, hcd⟩ := F.ex
  constructor
  · exact len
  intro A fr s H as us vs Q E hG hr e0 hb hv hsp
  have keep : ∀ b o, base.get? b = some o → s.heap.get? b = some o := fun b o h => (e0.bs b o h).1
  have kin := e0.mod.kin.keeps keep
  have loc : ∀ y ∈ ps.zip us, (defScope st).names.lookup y.1 = some .local ∨
      ((defScope st).names.lookup y.1 = some .cell ∧ ((cellsFrom (s.heap.objs.size + 1) (defScope st).names []).lookup y.1).isSome = true) := by
    rintro ⟨n, v⟩ hy
    cases S.par n (List.of_mem_zip hy).1 with
    | inl q => exact .inl q
    | inr q => exact .inr ⟨q, PySem.W.cellsFrom_some _ _ _ (.inl q)⟩
  refine codeAny_call_function hr.depth (kin f _ lk) rfl S.co S.gen rfl (PySem.W.codeRec_of kin hcd) (hb _ _ _ _ ?_)
  refine wpAny_newFunctionEnv_cells S.kind loc ?_
  rintro env rfl s1 inC
  refine ⟨(e0.mod.nolimit.keeps keep).keeps inC.toInCall.keep, codeAny_func ?_⟩
  obtain ⟨t, ht, hq⟩ := body cdv A fr s H vs Q E hG (hr.deeper _) hsp
  have I0 := inv_start (CX := CX) (E := E) S hr.hd e0 (len _ _ _ _ hsp) hv inC
  refine wpAny_mono (ht.run [] s1 (start N vs) H _ I0 hq) ?_ (fun _ _ h => h)
  intro fl s2 h2
  cases fl with
  | brk => obtain ⟨_, _, _, z⟩ := h2; exact z.elim
  | cont => obtain ⟨_, _, _, z⟩ := h2; exact z.elim
  | next =>
    obtain ⟨σ2, H2, J, z⟩ := h2
    exact ⟨.non, H2, J.os, J.bare, J.base, J.hok, rfl, z⟩
  | ret u =>
    obtain ⟨v2, σ2, H2, J, rv, z⟩ := h2
    exact ⟨v2, H2, J.os, J.bare, J.base, J.hok, rv, z⟩
end
section
variable {X : Cx} {CX : CXT} {k : Nat} {f : Addr} {fd : FuncData} {ps : List Str} {sp : Sp} {E : XK} {x : Str} {p pos : Pos} {e : Expr} {es : List Expr} {t : TA}
theorem run_g {pins : List (Addr × Obj)} {σ : L2.St} {H : Hp} {s : Shared} {Q : VK} {us : List Value} {vs : List V} (F : GFn X.prog X.w X.K X.mg X.base CX k f fd ps sp) (hG : X.A.guards = some []) (hr : Room k X.A)
    (hb : Binds X.K fd ps []) (hx : Passes CX X E) (I : Inv X pins σ H s) (r : Vals vs us) (h : sp vs H Q E) : wpAny (model X.prog X.w) X.A (call (.ref f) us) (EP X pins σ Q) X.xe s := by
  have el : us.length = ps.length := by rw [← r.length]; exact F.len _ _ _ _ h
  have hb' := hb s us I.kIn (by simpa using el)
  rw [List.append_nil] at hb'
  refine wpAny_call (codeAny_mono (F.run X.A X.stack s H ⟨us, []⟩ us vs Q E hG hr I.env0 hb' r h) ?_)
  intro res s2 h2
  match res, h2 with
  | .error e, h2 => exact hx pins σ H s e s2 I h2
  | .ok (.ret u), h2 => exact I.after h2
  | .ok .next, h2 => exact h2.elim
  | .ok .brk, h2 => exact h2.elim
  | .ok .cont, h2 => exact h2.elim
end

/-- the def x of the module, as callers want it -/
structure OkF (P : Program) (w : World) (K : PySem.W.Frag) (mg : Str → Option Value) (base : Heap) (CX : CXT) (k : Nat) (x : Str) (ps : List Str) (sp : Sp) : Prop where
  ex : ∃ f fd, mg x = some (.ref f) ∧ PySem.W.keepIn K (.ref f) = true ∧ Binds K fd ps [] ∧ (∃ oc od osl, K.lookup f = some ⟨oc, od, .func fd, osl⟩) ∧ GFn P w K mg base CX k f fd ps sp
/-- where the def x stands -/
structure DefAt (K : PySem.W.Frag) (mg : Str → Option Value) (x : Str) (st : Stmt) (ps : List Str) : Prop where
  ex : ∃ f fd, Fun K x x st f fd ∧ mg x = some (.ref f) ∧ Binds K fd ps []
theorem okF_of {P : Program} {w : World} {K : PySem.W.Frag} {mg : Str → Option Value} {base : Heap} {CX : CXT} {k : Nat} {x : Str} {st : Stmt} {N ps : List Str} {sp : Sp} (D : DefAt K mg x st ps) (S : FnScope N ps (defScope st))
    (len : ∀ vs H Q E, sp vs H Q E → vs.length = ps.length)
    (body : ∀ (f : Addr) (cdv : Value) (A : Around) (fr : List Env) (s : Shared) (H : Hp) (vs : List V) (Q : VK) (E : XK), A.guards = some [] →
      Room k (A.deeper (envOfC x (defScope st) s.heap.objs.size f cdv)) → sp vs H Q E →
      ∃ t, PSs (cxOf CX P w K mg base N x (defScope st) f cdv A fr s H E) (defBody st) t ∧ t { nx := fun _ H' => Q .non H', rt := Q } (start N vs) H) :
    OkF P w K mg base CX (k + 1) x ps sp := by
  obtain ⟨f, fd, F, m, b⟩ := D.ex
  have lk : ∃ oc od osl, K.lookup f = some ⟨oc, od, .func fd, osl⟩ := by
    obtain ⟨oc, od, kV, doc, pm, an, cdv, ct, osl, rfl, lk, hcd⟩ := F.ex
    exact ⟨oc, od, osl, lk⟩
  exact ⟨f, fd, m, F.kp, b, lk, gfn_of F S len (body f)⟩
section
variable {X : Cx} {CX : CXT} {k : Nat} {ps : List Str} {sp : Sp} {E : XK} {x : Str} {p pos : Pos} {e : Expr} {es : List Expr} {t : TA}
theorem pe_callF (F : OkF X.prog X.w X.K X.mg X.base CX k x ps sp) (hG : X.A.guards = some []) (hr : Room k X.A) (hg : Gl X x) (hx : Passes CX X E) (ha : PA X (e :: es) t)
    (hdb : (x == ("__debug__" : Str)) = false := by decide) (he : starEach (e :: es) X.env = (false, eval e X.env) :: starEach es X.env := by rfl) (hpl : (backTo pos (starEach es X.env)).any (·.1) = false := by rfl) :
    PE X (.Call (.Name x p) (e :: es) [] pos) (tCall sp [] E t) := by
  obtain ⟨f, fd, m, kp, b, _, G⟩ := F.ex
  refine ⟨fun pins s σ H Q I h => wpAny_Call_Name_kw (ld_glob I hg m ?_ hdb)⟩
  refine PySem.W.callWith_K (h₀ := X.base) I.ok.mod.kin kp (thn (ha.run pos pins s σ H _ I h) ?_) he hpl
  rintro us s1 ⟨vs, H1, I1, r, q⟩
  rw [List.append_nil] at q
  exact ⟨I1.kIn, run_g G hG hr b hx I1 r q⟩
theorem pe_callF0 (F : OkF X.prog X.w X.K X.mg X.base CX k x ps sp) (hG : X.A.guards = some []) (hr : Room k X.A) (hg : Gl X x) (hx : Passes CX X E)
    (hdb : (x == ("__debug__" : Str)) = false := by decide) : PE X (.Call (.Name x p) [] [] pos) (tCall sp [] E tNil) := by
  obtain ⟨f, fd, m, kp, b, _, G⟩ := F.ex
  refine ⟨fun pins s σ H Q I h => wpAny_Call_Name_kw (ld_glob I hg m ?_ hdb)⟩
  exact PySem.W.callWith_K0 I.kIn kp (run_g (us := []) G hG hr b hx I .nil h)
end

/-! ### promises by the number of arguments -/
def sp0 (p : Hp → VK → Prop) : Sp := fun vs H Q _ => vs = [] ∧ p H Q
def sp1 (p : V → Hp → VK → Prop) : Sp := fun vs H Q _ => ∃ a, vs = [a] ∧ p a H Q
def sp2 (p : V → V → Hp → VK → Prop) : Sp := fun vs H Q _ => ∃ a b, vs = [a, b] ∧ p a b H Q
def sp3 (p : V → V → V → Hp → VK → Prop) : Sp := fun vs H Q _ => ∃ a b c, vs = [a, b, c] ∧ p a b c H Q
def sp4 (p : V → V → V → V → Hp → VK → Prop) : Sp := fun vs H Q _ => ∃ a b c d, vs = [a, b, c, d] ∧ p a b c d H Q
def sp5 (p : V → V → V → V → V → Hp → VK → Prop) : Sp := fun vs H Q _ => ∃ a b c d e, vs = [a, b, c, d, e] ∧ p a b c d e H Q

/-! ### the end: the law's own call -/
theorem law_g {P : Program} {w : World} {K : PySem.W.Frag} {mg mb : Str → Option Value} {CX : CXT} {k : Nat} {fa a : Addr} {fd : FuncData} {x : Str} {sp : Sp} {s : Shared} {vs : List Value} {ns : List Int}
    (hk : K.In s.heap) (hm : s.heap.Ns mainGlobals mg) (hb : s.heap.Ns builtinsNs mb) (hbb : ∀ x : Str, x ≠ "__name__" → mb x = bootBuiltins x) (hl : s.heap.NoLimit) (hg : s.gens = #[])
    (ha : s.heap.get? a = some { cls := .type "list", data := .seq vs.toArray }) (hi : IntsAre vs ns) (hz : ns.length ≤ sizeLine) (hr : Room k callerA)
    (F : ∀ base : Heap, K.In base → base.Ns mainGlobals mg → GFn P w K mg base CX k fa fd [x] sp) (bnd : ∀ (s : Shared) (u : Value), BindsTo s fd ⟨[u], []⟩ [(x, u)])
    (hsp : ∀ H : Hp, Only H → SqL K H a (ns.map V.int) → sp [.ref a] H (fun v _ => v = .bl true) fun _ _ _ => False)
    (hCX : ∀ H e s', CX [] H s (fun _ _ _ => False) e s' → False) :
    codeAny (model P w) callerA (.call (.ref fa) ⟨[.ref a], []⟩) (fun r s' => r = .ok (.ret (.bool true)) ∧ OldK s.heap s'.heap ∧ s'.os = s.os ∧ AllBare s'.gens) s := by
  -- once for both: H tracks at most the script
  have both : ∀ H : Hp, (∀ b, H b = none ∨ (b = a ∧ K.lookup a = none ∧ H b = some (.frz { cls := .type "list", data := .seq vs.toArray } (.lst (ns.map V.int))))) → HOk P w H s.heap → SqL K H a (ns.map V.int) →
      codeAny (model P w) callerA (.call (.ref fa) ⟨[.ref a], []⟩) (fun r s' => r = .ok (.ret (.bool true)) ∧ OldK s.heap s'.heap ∧ s'.os = s.os ∧ AllBare s'.gens) s := by
    intro H hH hok hS
    have free : ∀ {b : Addr} {o : Obj}, s.heap.get? b = some o → (b = a → K.lookup a = none → False) → H b = none := by
      intro b o _ h
      rcases hH b with z | ⟨z1, z2, _⟩
      · exact z
      · exact (h z1 z2).elim
    have nsB : ∀ {b : Addr} {m : Str → Option Value}, s.heap.Ns b m → (hidT s.heap H).Ns b m := by
      rintro b m ⟨o, es, ep, h1, h2, h3⟩
      refine ⟨o, es, ep, hidT_get h1 (free h1 fun z _ => ?_), h2, h3⟩
      subst z
      rw [ha] at h1
      cases h1
      cases (show Data.seq vs.toArray _ = Data.dict es ep from h2)
    have kB : K.In (hidT s.heap H) := fun b o h => hidT_get (hk b o h) (free (hk b o h) fun z1 z2 => by rw [z1, z2] at h; cases h)
    obtain ⟨mc, c1, c2⟩ := hl
    have M0 : Mod K mg (hidT s.heap H) := ⟨kB, nsB hm, ⟨mb, nsB hb, hbb⟩, ⟨mc, nsB c1, c2⟩⟩
    have no : ∀ b : Addr, b ∉ ([] : List Addr) := fun b z => by simp at z
    have E0' : Env0 P w K mg (hidT s.heap H) callerA [] s H := ⟨rfl, M0, fun b o h => of_hidT h, Nat.le_of_eq (hidT_size _ _), trivial, fun b z => (no b z).elim, hok, .of_eq hg⟩
    have hO : Only H := fun b => by
      rcases hH b with z | ⟨_, _, z⟩
      · exact .inl z
      · exact .inr ⟨_, _, z⟩
    refine codeAny_mono ((F _ kB (nsB hm)).run callerA [] s H ⟨[.ref a], []⟩ [.ref a] [.ref a] _ _ rfl hr E0' (bnd s (.ref a)) (.cons rfl .nil) (hsp H hO hS)) ?_
    intro res s' h
    match res, h with
    | .error e, h => exact (hCX H e s' h).elim
    | .ok .next, h => exact h.elim
    | .ok .brk, h => exact h.elim
    | .ok .cont, h => exact h.elim
    | .ok (.ret u), h =>
      obtain ⟨v, H', e1, e2, un, ok', rv, rfl⟩ := h
      refine ⟨by rw [show u = Value.bool true from rv], OldK.of_keep fun b o e => ?_, e1, e2⟩
      rcases hH b with z | ⟨_, _, z⟩
      · exact un.keep b o e z (no b) (no b)
      · have o1 := (hok b _ z).1
        have o2 := (ok' b _ (un.frzs b _ _ z)).1
        rw [← Option.some.inj (o1.symm.trans e)]
        exact o2
  have rv := vals_ints hi
  cases q : K.lookup a with
  | some o =>
    have e := (hk a o q).symm.trans ha
    cases e
    refine both (fun _ => none) (fun _ => .inl rfl) (fun b u z => by cases (show (none : Option HO) = some u from z)) (.inr ⟨_, vs.toArray, _, q, rfl, rfl, rfl, ?_, by simpa using rv⟩)
    have := hi.length
    simp only [List.size_toArray]
    omega
  | none =>
    refine both (fun b => if b = a then some (.frz { cls := .type "list", data := .seq vs.toArray } (.lst (ns.map V.int))) else none) (fun b => ?_) (fun b u z => ?_) (.inl (.inr ⟨_, if_pos rfl⟩))
    · by_cases h : b = a
      · exact .inr ⟨h, q, if_pos h⟩
      · exact .inl (if_neg h)
    · by_cases h : b = a
      · have z' : some (HO.frz { cls := .type "list", data := .seq vs.toArray } (.lst (ns.map V.int))) = some u := (if_pos h).symm.trans z
        cases z'
        subst h
        exact ⟨ha, by simpa using hz, vs, _, rv, ha⟩
      · cases (show (none : Option HO) = some u from (if_neg h).symm.trans z)
theorem walk_g {l : PySem.W.OpenLaw} {n k : Nat} {q : Program} {loose : List Str} {XP : (Str → Option Value) → Heap → Prop} {YP : World → Heap → Prop} {d : DefRec} {K : Params → PySem.W.Frag} {CX : World → CXT} {sp : PySem.W.Frag → Sp} {x : Str}
    (hn : l.most = some n) (hn2 : n ≤ sizeLine) (hdf : d.params.defaults = []) (hr : Room k callerA) (hY : ∀ (w : World) (h : Heap), YP w h → (K w.params).In h)
    (F : ∀ (w : World) (mg : Str → Option Value) (fa : Addr) (h : Heap), (K w.params).In h → h.Ns mainGlobals mg → mg d.name = some (.ref fa) →
      ∃ fd : FuncData, (∀ (s : Shared) (u : Value), BindsTo s fd ⟨[u], []⟩ [(x, u)]) ∧ ∀ base : Heap, (K w.params).In base → base.Ns mainGlobals mg → GFn l.prog w (K w.params) mg base (CX w) k fa fd [x] (sp (K w.params)))
    (hsp : ∀ (w : World) (H : Hp) (a : Addr) (ns : List Int), ns.length ≤ n → Only H → SqL (K w.params) H a (ns.map V.int) → sp (K w.params) [.ref a] H (fun v _ => v = .bl true) fun _ _ _ => False)
    (hCX : ∀ (w : World) (H : Hp) (s : Shared) (e : Value) (s' : Shared), CX w [] H s (fun _ _ _ => False) e s' → False) :
    PySem.W.WalkO q loose XP YP l.row.toRowW d [] (fun f vs => PySem.call f vs) := by
  refine Att.attach_call hn hdf ?_
  intro w s₀ s₁ mg mb fa o pm cd doc a vs ns G Y ho hd hcd hmg hobj hints hlen hg
  obtain ⟨fd, hb, hF⟩ := F w mg fa _ (hY w _ Y) G.T.g hmg
  exact law_g (hY w _ Y) G.T.g G.T.b G.T.builtins G.T.nolimit hg hobj hints (Nat.le_trans hlen hn2) hr hF hb (fun H hO hS => hsp w H a ns hlen hO hS) fun H e s' => hCX w H s₁ e s'
end VB

namespace VB
open PySem PySem.Spec PyProof.Rows L2

/-! ### one step of a reading -/
section
variable {K : PySem.W.Frag} {σ σ' : L2.St} {H H0 H' : Hp} {Q : VK} {QB : Bool → Hp → Prop} {QA : List V → Hp → Prop} {D : Ends} {i j : Int} {n : Nat} {x y v : V} {ta tb tc te : TE} {t u : TT} {tl tr : TA} {ts tz : TS} {a p : Addr} {xs ys : List V} {M : List Addr} {W R : List (Addr × HO)}
theorem w_var (e : σ[n]? = some (some v)) (q : Q v H) : tVar n σ H Q := ⟨v, e, q⟩
theorem w_c (q : Q v H) : tC v σ H Q := q
theorem w_op {r : R2} (q : ta σ H fun x H1 => tb σ H1 fun y H2 => r x y H2 Q) : tOp r ta tb σ H Q := q
theorem w_un {r : V → Hp → VK → Prop} (q : ta σ H fun x H1 => r x H1 Q) : tUn r ta σ H Q := q
theorem w_rI0 {g : Int → Int → V} (q : Q (g i j) H) : rI0 g (.int i) (.int j) H Q := ⟨i, j, rfl, rfl, q⟩
theorem w_rI {C : Int → Int → Prop} {g : Int → Int → V} (c : C i j) (q : Q (g i j) H) : rI C g (.int i) (.int j) H Q := ⟨i, j, rfl, rfl, c, q⟩
theorem w_rU {g : Int → V} (q : Q (g i) H) : rU g (.int i) H Q := ⟨i, rfl, q⟩
theorem w_eqI (q : Q (.bl (decide (i = j))) H) : rEq (.int i) (.int j) H Q := ⟨rfl, by rw [show decide (V.int i = V.int j) = decide (i = j) from decide_eq_decide.mpr ⟨V.int.inj, congrArg _⟩]; exact q⟩
theorem w_neI (q : Q (.bl (!decide (i = j))) H) : rNe (.int i) (.int j) H Q := ⟨rfl, by rw [show decide (V.int i = V.int j) = decide (i = j) from decide_eq_decide.mpr ⟨V.int.inj, congrArg _⟩]; exact q⟩
theorem w_eqS {z z' : Str} (q : Q (.bl (decide (z = z'))) H) : rEq (.str z) (.str z') H Q := ⟨rfl, by rw [show decide (V.str z = V.str z') = decide (z = z') from decide_eq_decide.mpr ⟨V.str.inj, congrArg _⟩]; exact q⟩
theorem w_neS {z z' : Str} (q : Q (.bl (!decide (z = z'))) H) : rNe (.str z) (.str z') H Q := ⟨rfl, by rw [show decide (V.str z = V.str z') = decide (z = z') from decide_eq_decide.mpr ⟨V.str.inj, congrArg _⟩]; exact q⟩
theorem w_eqB {z z' : Bool} (q : Q (.bl (decide (z = z'))) H) : rEq (.bl z) (.bl z') H Q := ⟨rfl, by rw [show decide (V.bl z = V.bl z') = decide (z = z') from decide_eq_decide.mpr ⟨V.bl.inj, congrArg _⟩]; exact q⟩
theorem w_neB {z z' : Bool} (q : Q (.bl (!decide (z = z'))) H) : rNe (.bl z) (.bl z') H Q := ⟨rfl, by rw [show decide (V.bl z = V.bl z') = decide (z = z') from decide_eq_decide.mpr ⟨V.bl.inj, congrArg _⟩]; exact q⟩
theorem w_is {z : Bool} (q : Q (.bl z) H) (e : V.bl z = x) : Q x H := e ▸ q
theorem w_isB {z z' : Bool} (q : Q (.bl (decide (z = z'))) H) : rIsB (.bl z) (.bl z') H Q := ⟨z, z', rfl, rfl, q⟩
theorem w_notB {z z' : Bool} (q : Q (.bl (!decide (z = z'))) H) : rNotB (.bl z) (.bl z') H Q := ⟨z, z', rfl, rfl, q⟩
theorem w_nil (q : QA [] H) : tNil σ H QA := q
theorem w_cons (q : ta σ H fun x H1 => tl σ H1 fun xs H2 => QA (x :: xs) H2) : tCons ta tl σ H QA := q
theorem w_cb {r : List V → Hp → VK → Prop} (q : tl σ H fun vs H1 => r vs H1 Q) : tCB r tl σ H Q := q
theorem w_call {sp : Sp} {E : XK} (q : tl σ H fun vs H1 => sp vs H1 Q E) : tCall sp [] E tl σ H Q := by
  have e : tCall sp [] E tl σ H Q = (tl σ H fun vs H1 => sp (vs ++ []) H1 Q E) := rfl
  rw [e]
  simpa only [List.append_nil] using q
theorem w_bm {T : String} {r : V → List V → Hp → VK → Prop} (q : ta σ H fun x H1 => tyV K T x H1 ∧ tl σ H1 fun xs H2 => r x xs H2 Q) : tBM K T r ta tl σ H Q := q
theorem w_bm0 {T : String} {r : V → List V → Hp → VK → Prop} (q : ta σ H fun x H1 => tyV K T x H1 ∧ r x [] H1 Q) : tBM0 K T r ta σ H Q := q
def NewL (Q : VK) (xs : List V) (H : Hp) : Prop := xs.length ≤ sizeLine ∧ ∀ p, H p = none → Q (.ref p) (upd H p (.lst xs))
def NewT (Q : VK) (xs : List V) (H : Hp) : Prop := xs.length ≤ sizeLine ∧ ∀ p, H p = none → Q (.ref p) (upd H p (.tup xs))
theorem w_lst (q : tl σ H (NewL Q)) : tLst tl σ H Q := q
theorem w_tup (q : tl σ H (NewT Q)) : tTup tl σ H Q := q
theorem w_sl {r : V → Option Int → Option Int → Hp → VK → Prop} {t1 t2 : TO} (q : te σ H fun x H1 => t1 σ H1 fun l H2 => t2 σ H2 fun u H3 => r x l u H3 Q) : tSl r te t1 t2 σ H Q := q
theorem w_nopart {QO : Option Int → Hp → Prop} (q : QO none H) : tNoPart σ H QO := q
theorem w_part {QO : Option Int → Hp → Prop} (q : te σ H fun x H1 => ∃ i, x = .int i ∧ QO (some i) H1) : tPart te σ H QO := q
theorem w_ifx (q : t σ H fun c H1 => if c = true then ta σ H1 Q else tb σ H1 Q) : tIf t ta tb σ H Q := q
theorem w_andV (q : ta σ H fun x H1 => ∃ c, x = .bl c ∧ if c = true then tb σ H1 Q else Q (.bl false) H1) : tAndV ta tb σ H Q := q
theorem w_orV (q : ta σ H fun x H1 => ∃ c, x = .bl c ∧ if c = true then Q (.bl true) H1 else tb σ H1 Q) : tOrV ta tb σ H Q := q
theorem w_notV (q : ta σ H fun x H1 => ∃ c, x = .bl c ∧ Q (.bl (!c)) H1) : tNotV ta σ H Q := q
theorem w_and (q : t σ H fun c H1 => if c = true then u σ H1 QB else QB false H1) : tAnd t u σ H QB := q
theorem w_or (q : t σ H fun c H1 => if c = true then QB true H1 else u σ H1 QB) : tOr t u σ H QB := q
theorem w_not (q : t σ H fun c H1 => QB (!c) H1) : tNot t σ H QB := q
theorem w_test (q : ta σ H fun x H' => ∃ k, x = .bl k ∧ QB k H') : tTest ta σ H QB := q
theorem w_tB (q : ta σ H fun x H' => ∃ k, x = .bl k ∧ QB k H') : tB ta σ H QB := q
theorem w_yes (q : QB true H) : tYes σ H QB := q
theorem w_chain {r r' : R2} (q : ta σ H fun x H1 => tb σ H1 fun y H2 => r x y H2 fun z H3 => ∃ k, z = .bl k ∧ (if k = true then tc σ H3 fun w' H4 => r' y w' H4 Q else Q (.bl false) H3)) : tChain r r' ta tb tc σ H Q := q
theorem w_bl {k : Bool} {QP : Bool → Prop} (q : QP k) : ∃ c, V.bl k = .bl c ∧ QP c := ⟨k, rfl, q⟩
theorem w_int1 {QP : Int → Prop} (q : QP i) : ∃ c, V.int i = .int c ∧ QP c := ⟨i, rfl, q⟩
-- statements
theorem w_seq (q : ts { D with nx := tz D } σ H) : tSeq ts tz D σ H := q
theorem w_next (q : D.nx σ H) : tNext D σ H := q
theorem w_brk (q : D.bk σ H) : tBreak D σ H := q
theorem w_cont (q : D.ct σ H) : tCont D σ H := q
theorem w_asg {g : TG} (q : te σ H fun x H1 => g x σ H1 D.nx) : tAsg te g D σ H := q
theorem w_gname {QS : L2.St → Hp → Prop} (q : QS (σ.set n (some v)) H) : gName n v σ H QS := q
theorem w_gsub {to ti : TE} {s : TSet} {QS : L2.St → Hp → Prop} (q : to σ H fun o H1 => ti σ H1 fun i H2 => s o i v H2 fun H3 => QS σ H3) : gSub to ti s v σ H QS := q
theorem w_gtup {g : TGs} {QS : L2.St → Hp → Prop} (h : SqT K H a xs) (hl : xs.length = n) (q : g xs σ H QS) : gTup K n g (.ref a) σ H QS := ⟨a, xs, rfl, h, hl, q⟩
theorem w_gcons {g : TG} {gs : TGs} {QS : L2.St → Hp → Prop} (q : g v σ H fun σ' H' => gs xs σ' H' QS) : gCons g gs (v :: xs) σ H QS := ⟨v, xs, rfl, q⟩
theorem w_gnil {QS : L2.St → Hp → Prop} (q : QS σ H) : gNil [] σ H QS := ⟨rfl, q⟩
theorem w_par {k l : Nat} (q : tl σ H fun vs H1 => ∃ v w, vs = [v, w] ∧ D.nx ((σ.set k (some v)).set l (some w)) H1) : tPar k l tl D σ H := q
theorem w_par3 {k l m : Nat} (q : tl σ H fun vs H1 => ∃ u v w, vs = [u, v, w] ∧ D.nx (((σ.set k (some u)).set l (some v)).set m (some w)) H1) : tPar3 k l m tl D σ H := q
theorem w_drop (q : te σ H fun _ H1 => D.nx σ H1) : tDrop te D σ H := q
theorem w_ret (q : te σ H D.rt) : tRet te D σ H := q
theorem w_retN (q : D.rt .non H) : tRetN D σ H := q
theorem w_ifs (q : t σ H fun b H1 => if b = true then ts D σ H1 else tz D σ H1) : tIfS t ts tz D σ H := q
-- ifs
theorem w_ite {c : Prop} {_ : Decidable c} {A B : Prop} (h1 : c → A) (h2 : ¬ c → B) : if decide c = true then A else B := by
  by_cases h : c
  · rw [decide_eq_true h, if_pos rfl]; exact h1 h
  · rw [decide_eq_false h, if_neg Bool.false_ne_true]; exact h2 h
theorem w_iteN {c : Prop} {_ : Decidable c} {A B : Prop} (h1 : ¬ c → A) (h2 : c → B) : if (!decide c) = true then A else B := by
  by_cases h : c
  · rw [decide_eq_true h]; exact (if_neg Bool.false_ne_true).symm ▸ h2 h
  · rw [decide_eq_false h]; exact (if_pos rfl).symm ▸ h1 h
theorem w_itb {b : Bool} {A B : Prop} (h1 : b = true → A) (h2 : b = false → B) : if b = true then A else B := by
  cases b with
  | true => rw [if_pos rfl]; exact h1 rfl
  | false => rw [if_neg Bool.false_ne_true]; exact h2 rfl
theorem w_itN {b : Bool} {A B : Prop} (h1 : b = false → A) (h2 : b = true → B) : if (!b) = true then A else B := by
  cases b with
  | true => exact (if_neg Bool.false_ne_true).symm ▸ h2 rfl
  | false => exact (if_pos rfl).symm ▸ h1 rfl
theorem w_max {QP : Int → Int → Prop} {i j : Int} (q : QP i j) : ∃ i' j', [V.int i, V.int j] = [V.int i', V.int j'] ∧ QP i' j' := ⟨i, j, rfl, q⟩
theorem if_max (i j : Int) : (if j > i then j else i) = max i j := by split <;> omega
theorem if_min (i j : Int) : (if j < i then j else i) = min i j := by split <;> omega
theorem w_abs {QP : Int → Prop} {i : Int} (q : QP i) : ∃ i', [V.int i] = [V.int i'] ∧ QP i' := ⟨i, rfl, q⟩
theorem if_abs (i : Int) : (if i < 0 then -i else i) = (i.natAbs : Int) := by split <;> omega
theorem w_itT {A B : Prop} (h : A) : if true = true then A else B := by rw [if_pos rfl]; exact h
theorem w_itNT {A B : Prop} (h : B) : if (!true) = true then A else B := h
theorem w_itNF {A B : Prop} (h : A) : if (!false) = true then A else B := h
theorem w_itF {A B : Prop} (h : B) : if false = true then A else B := by rw [if_neg Bool.false_ne_true]; exact h
-- objects
theorem sz (h : n ≤ 100000) : n ≤ sizeLine := Nat.le_trans h (by decide)
theorem szl (h : n < 100000) : n < sizeLine := Nat.lt_of_lt_of_le h (by decide)
theorem w_newL (S : Tr M H0 H W) (l : xs.length ≤ 100000) (k : ∀ p H', Tr M H0 H' ((p, .lst xs) :: W) → Q (.ref p) H') : NewL Q xs H :=
  ⟨sz l, fun p hp => k p _ (S.new hp)⟩
theorem w_newT (S : Tr M H0 H W) (l : xs.length ≤ 100000) (k : ∀ p H', Tr M H0 H' ((p, .tup xs) :: W) → Q (.ref p) H') : NewT Q xs H :=
  ⟨sz l, fun p hp => k p _ (S.new hp)⟩
theorem w_newO {QP : Addr → Prop} {o : HO} (S : Tr M H0 H W) (k : ∀ p, Tr M H0 (upd H p o) ((p, o) :: W) → QP p) : ∀ p, H p = none → QP p := fun p hp => k p (S.new hp)
theorem w_ixL (h : SqL K H p xs) (e : atI xs i = some v) (q : Q v H) : rIxL K (.ref p) (.int i) H Q := ⟨p, xs, i, v, rfl, rfl, h, e, q⟩
theorem w_ixT (h : SqT K H p xs) (e : atI xs i = some v) (q : Q v H) : rIxT K (.ref p) (.int i) H Q := ⟨p, xs, i, v, rfl, rfl, h, e, q⟩
theorem w_setL {QH : Hp → Prop} (S : Tr M H0 H W) (m : Nat) (h : W[m]? = some (p, .lst xs)) (e : ixN xs.length i = some n) (k : ∀ H', Tr M H0 H' (W.set m (p, .lst (xs.set n v))) → QH H') : rSetL (.ref p) (.int i) v H QH :=
  ⟨p, xs, i, n, rfl, rfl, S.get m h, e, k _ (S.putN m h)⟩
theorem w_len {QP : List V → Prop} (h : SqL K H p xs ∨ SqT K H p xs) (q : QP xs) : ∃ p' ys, [V.ref p] = [.ref p'] ∧ (SqL K H p' ys ∨ SqT K H p' ys) ∧ QP ys := ⟨p, xs, rfl, h, q⟩
theorem w_ty (h : SqL K H p xs) (q : R') : tyV K "list" (.ref p) H ∧ R' := ⟨.inl ⟨rfl, xs, h⟩, q⟩
theorem w_app (S : Tr M H0 H W) (m : Nat) (h : W[m]? = some (p, .lst xs)) (l : xs.length < 100000) (k : ∀ H', Tr M H0 H' (W.set m (p, .lst (xs ++ [v]))) → Q .non H') : rAppend (.ref p) [v] H Q :=
  ⟨p, xs, v, rfl, rfl, S.get m h, szl l, k _ (S.putN m h)⟩
theorem w_pop (S : Tr M H0 H W) (m : Nat) (h : W[m]? = some (p, .lst (xs ++ [v]))) (k : ∀ H', Tr M H0 H' (W.set m (p, .lst xs)) → Q v H') : rPop (.ref p) [] H Q :=
  ⟨p, xs ++ [v], v, rfl, rfl, S.get m h, by simp, by rw [List.dropLast_concat]; exact k _ (S.putN m h)⟩
theorem w_cat (S : Tr M H0 H W) (h1 : H a = some (.lst xs)) (h2 : H p = some (.lst ys)) (l : xs.length + ys.length ≤ 100000) (k : ∀ b H', Tr M H0 H' ((b, .lst (xs ++ ys)) :: W) → Q (.ref b) H') : rCat (.ref a) (.ref p) H Q :=
  ⟨a, p, xs, ys, rfl, rfl, h1, h2, sz l, fun b hb => k b _ (S.new hb)⟩
theorem w_cutL {lo hi : Option Int} (S : Tr M H0 H W) (h1 : SqL K H a xs) (k : ∀ b H', Tr M H0 H' ((b, .lst (cutV xs lo hi)) :: W) → Q (.ref b) H') : rSlL K (.ref a) lo hi H Q :=
  ⟨a, xs, rfl, h1, fun b hb => k b _ (S.new hb)⟩
theorem Tr.sq (S : Tr M H0 H W) (h : SqL K H0 a xs) (n : a ∉ M) : SqL K H a xs := by
  rcases h with (h | ⟨o, h⟩) | h
  · exact .inl (.inl (S.fr _ _ h n))
  · exact .inl (.inr ⟨o, S.fr _ _ h n⟩)
  · exact .inr h
theorem w_start {t : TS} (e : σ = σ') (q : t D σ' H) : t D σ H := e ▸ q
end

/-! ### more rules -/
def CPowW (i j : Int) : Prop := 0 ≤ j ∧ j ≤ 64 ∧ i.natAbs < 2 ^ 250
section
variable {X : Cx}
theorem op_powW : OpR X (binaryOp .Pow) (rI CPowW fun i j => .int (i ^ j.toNat)) := opI fun i j _ _ _ _ _ hc q => by
  have h3 : i.natAbs.log2 < 250 := PySem.Flt.log2_lt_of (by decide) hc.2.2
  have h4 : Builtin.Int.intBits i ≤ i.natAbs.log2 + 1 := by
    unfold Builtin.Int.intBits
    split <;> omega
  refine pow_int hc.1 ?_ q
  have h1 := hc.1
  have h2 := hc.2.1
  have h5 : ((Builtin.Int.intBits i : Nat) : Int) ≤ 250 := by omega
  have h6 : ((Builtin.Int.intBits i : Nat) : Int) * j ≤ 250 * 64 := Int.mul_le_mul h5 h2 h1 (by decide)
  exact Int.le_trans h6 (by decide)

/-- data that repr shows and == compares -/
structure Shown (d : PyData) : Prop where
  lay : d.canLay0 = true
  dep : d.depth ≤ 40
  sh : d.showable = true
  len : d.shown.length ≤ sizeLine
def rRepr (K : PySem.W.Frag) : List V → Hp → VK → Prop := fun xs H Q => ∃ x d, xs = [x] ∧ Dp K H x d ∧ Shown d ∧ Q (.str d.shown) H
theorem call_reprD {k : Nat} (hG : X.A.guards = some []) (hr : Room k X.A) : CallR X (.builtin "repr") (rRepr X.K) := by
  intro pins s σ H xs us Q I r h
  obtain ⟨x, d, rfl, dp, sd, q⟩ := h
  obtain ⟨u, rfl, rx⟩ := vals1 r
  cases dp with
  | non =>
    cases rx
    refine PySem.P.repr_of_none ⟨.str _, H, I.tok _, ⟨_, rfl⟩, ?_⟩
    simpa only [PyData.shown] using q
  | bl b =>
    cases rx
    refine PySem.P.repr_of_bool ⟨.str _, H, I.tok _, ⟨_, rfl⟩, ?_⟩
    simpa only [PyData.shown] using q
  | int i =>
    obtain ⟨t, rfl⟩ := rx
    have hz : i.natAbs.log2 < 1920 := by have := sd.sh; simpa only [PyData.showable, decide_eq_true_eq] using this
    refine PySem.P.repr_of_int hz ⟨.str _, H, I.tok _, ⟨_, rfl⟩, ?_⟩
    simpa only [PyData.shown] using q
  | str y =>
    obtain ⟨t, rfl⟩ := rx
    refine PySem.P.repr_of_str ⟨.str _, H, I.tok _, ⟨_, rfl⟩, ?_⟩ (by have := sd.len; simpa only [PyData.shown] using this)
    simpa only [PyData.shown] using q
  | lst hs ha =>
    cases rx
    obtain ⟨as, rd⟩ := Dp.reads I _ _ _ (Dp.lst hs ha) rfl
    have hd := PyData.hasDict_of_canLay _ sd.lay
    have hu := hr.units
    have h40 := sd.dep
    exact repr_of_reads' rd sd.sh (PyData.noDict_hsm hd) hG (by omega) (fun _ _ e => e) (fun h' u tk k => ⟨.str _, H, I.kept k, ⟨_, rfl⟩, q⟩) sd.len
  | tup hs ha =>
    cases rx
    obtain ⟨as, rd⟩ := Dp.reads I _ _ _ (Dp.tup hs ha) rfl
    have hd := PyData.hasDict_of_canLay _ sd.lay
    have hu := hr.units
    have h40 := sd.dep
    exact repr_of_reads' rd sd.sh (PyData.noDict_hsm hd) hG (by omega) (fun _ _ e => e) (fun h' u tk k => ⟨.str _, H, I.kept k, ⟨_, rfl⟩, q⟩) sd.len
end
/-! ### lists of ints as data -/
theorem dpAll_ints {K : PySem.W.Frag} {H : Hp} : ∀ ns : List Int, DpAll K H (ns.map V.int) (ns.map PyData.int)
  | [] => .nil
  | n :: ns => .cons (.int n) (dpAll_ints ns)
theorem dp_ints {K : PySem.W.Frag} {H : Hp} {a : Addr} {ns : List Int} (h : SqL K H a (ns.map V.int)) : Dp K H (.ref a) (.list (ns.map PyData.int)) := .lst h (dpAll_ints ns)
theorem canLay_ints : ∀ ns : List Int, PyData.canLayAll0 (ns.map PyData.int) = true
  | [] => rfl
  | n :: ns => by rw [List.map_cons, PyData.canLayAll0, canLay_ints ns]; rfl
theorem depth_ints : ∀ ns : List Int, PyData.depthAll (ns.map PyData.int) = 0
  | [] => rfl
  | n :: ns => by rw [List.map_cons, PyData.depthAll, depth_ints ns]; rfl
theorem log2_1920 {n : Int} {b : Nat} (h : n.natAbs < 2 ^ b) (h0 : 0 < b) (h1 : b ≤ 1920) : n.natAbs.log2 < 1920 := Nat.lt_of_lt_of_le (PySem.Flt.log2_lt_of h0 h) h1
theorem showable_ints : ∀ ns : List Int, (∀ n ∈ ns, n.natAbs < 10 ^ 12) → PyData.showableAll (ns.map PyData.int) = true
  | [], _ => rfl
  | n :: ns, h => by
    rw [List.map_cons, PyData.showableAll, showable_ints ns fun m hm => h m (List.mem_cons_of_mem _ hm), Bool.and_true, PyData.showable]
    have h1 := h n (List.mem_cons_self ..)
    exact decide_eq_true (log2_1920 (b := 64) (Nat.lt_trans h1 (by decide)) (by decide) (by decide))
theorem weight_ints : ∀ ns : List Int, (∀ n ∈ ns, n.natAbs < 10 ^ 12) → PyData.weightAll (ns.map PyData.int) ≤ 42 * ns.length
  | [], _ => Nat.le_refl _
  | n :: ns, h => by
    have h2 := weight_ints ns fun m hm => h m (List.mem_cons_of_mem _ hm)
    have h1 := h n (List.mem_cons_self ..)
    have h3 : PyData.weight (.int n) ≤ 41 := by
      rw [PyData.weight]
      split
      · omega
      · have := PySem.Flt.log2_lt_of (n := n.natAbs) (k := 40) (by decide) (Nat.lt_trans h1 (by decide))
        omega
    rw [List.map_cons, PyData.weightAll, List.length_cons]
    omega
theorem shown_ints {ns : List Int} (h : ∀ n ∈ ns, n.natAbs < 10 ^ 12) (hl : ns.length ≤ 10000) : Shown (.list (ns.map PyData.int)) := by
  refine ⟨?_, ?_, ?_, ?_⟩
  · rw [PyData.canLay0]; exact canLay_ints ns
  · rw [PyData.depth, depth_ints]; decide
  · rw [PyData.showable]; exact showable_ints ns h
  · have hc : PyData.canLay0 (.list (ns.map PyData.int)) = true := by rw [PyData.canLay0]; exact canLay_ints ns
    have hi : PyData.intsShort 13 (.list (ns.map PyData.int)) = true := by rw [PyData.intsShort]; exact PyData.intsShortAll_ints ns h
    refine PyData.shown_fits (B := 13) (by decide) (by decide) (PyData.leavesShort_of_canLay0 13 _ hc hi) ?_
    rw [PyData.weight]
    have := weight_ints ns h
    omega
theorem eqv_ints : ∀ ns ms : List Int, PyData.eqv (.list (ns.map PyData.int)) (.list (ms.map PyData.int)) = decide (ns = ms) := by
  intro ns ms
  rw [PyData.eqv]
  induction ns generalizing ms with
  | nil => cases ms <;> simp [PyData.eqvAll]
  | cons n ns ih =>
    cases ms with
    | nil => simp [PyData.eqvAll]
    | cons m ms =>
      rw [List.map_cons, List.map_cons, PyData.eqvAll, ih, PyData.eqv]
      by_cases h1 : n = m <;> by_cases h2 : ns = ms <;> simp [h1, h2]
theorem shaped_ints (ns : List Int) : SeqAt.shaped (.list (ns.map PyData.int)) = true := by
  unfold SeqAt.shaped
  rw [PyData.canLay0, canLay_ints, PyData.depth, depth_ints]
  rfl
section
variable {K : PySem.W.Frag} {H : Hp} {Q : VK} {a b : Addr} {ns ms : List Int}
theorem w_eqL (h1 : SqL K H a (ns.map V.int)) (h2 : SqL K H b (ms.map V.int)) (q : Q (.bl (decide (ns = ms))) H) : rEqD K (.ref a) (.ref b) H Q :=
  ⟨_, _, dp_ints h1, dp_ints h2, shaped_ints ns, shaped_ints ms, by rw [eqv_ints]; exact q⟩
theorem w_neL (h1 : SqL K H a (ns.map V.int)) (h2 : SqL K H b (ms.map V.int)) (q : Q (.bl (!decide (ns = ms))) H) : rNeD K (.ref a) (.ref b) H Q :=
  ⟨_, _, dp_ints h1, dp_ints h2, shaped_ints ns, shaped_ints ms, by rw [eqv_ints]; exact q⟩
theorem w_reprL (h1 : SqL K H a (ns.map V.int)) (hb : ∀ n ∈ ns, n.natAbs < 10 ^ 12) (hl : ns.length ≤ 10000) (q : Q (.str (PyData.shown (.list (ns.map PyData.int)))) H) : rRepr K [.ref a] H Q :=
  ⟨_, _, rfl, dp_ints h1, shown_ints hb hl, q⟩
theorem w_reprN (q : Q (.str (PyData.shown .none)) H) : rRepr K [.non] H Q := ⟨_, _, rfl, .non, ⟨rfl, by decide, rfl, by decide +kernel⟩, q⟩
theorem w_reprB {z : Bool} (q : Q (.str (PyData.shown (.bool z))) H) : rRepr K [.bl z] H Q := ⟨_, _, rfl, .bl z, ⟨rfl, by simp [PyData.depth], rfl, by cases z <;> decide +kernel⟩, q⟩
theorem shown_int {i : Int} (h : i.natAbs < 10 ^ 12) : Shown (.int i) := by
  refine ⟨rfl, Nat.zero_le _, ?_, ?_⟩
  · rw [PyData.showable]
    exact decide_eq_true (log2_1920 (b := 64) (Nat.lt_trans h (by decide)) (by decide) (by decide))
  · exact Nat.le_trans (PyData.shown_int_le h) (by decide)
theorem w_reprI {i : Int} (h : i.natAbs < 10 ^ 12) (q : Q (.str (PyData.shown (.int i))) H) : rRepr K [.int i] H Q := ⟨_, _, rfl, .int i, shown_int h, q⟩
theorem shown_pair {i j : Int} (h : i.natAbs < 10 ^ 12) (h' : j.natAbs < 10 ^ 12) : Shown (.tuple [.int i, .int j]) := by
  have hs : PyData.showableAll [.int i, .int j] = true := showable_ints [i, j] (by intro n hn; simp at hn; rcases hn with rfl | rfl <;> assumption)
  have hi : PyData.intsShortAll 13 [.int i, .int j] = true := PyData.intsShortAll_ints [i, j] (by intro n hn; simp at hn; rcases hn with rfl | rfl <;> assumption)
  have hw := weight_ints [i, j] (by intro n hn; simp at hn; rcases hn with rfl | rfl <;> assumption)
  refine ⟨rfl, by simp [PyData.depth, PyData.depthAll], by rw [PyData.showable]; exact hs, ?_⟩
  refine PyData.shown_fits (B := 13) (by decide) (by decide) (PyData.leavesShort_of_canLay0 13 _ rfl (by rw [PyData.intsShort]; exact hi)) ?_
  rw [PyData.weight]
  simp only [List.map_cons, List.map_nil, List.length_cons, List.length_nil] at hw
  omega
theorem w_reprP {i j : Int} (h1 : SqT K H a [.int i, .int j]) (h : i.natAbs < 10 ^ 12) (h' : j.natAbs < 10 ^ 12) (q : Q (.str (PyData.shown (.tuple [.int i, .int j]))) H) : rRepr K [.ref a] H Q :=
  ⟨_, _, rfl, .tup h1 (.cons (.int i) (.cons (.int j) .nil)), shown_pair h h', q⟩
end
end VB
namespace VB
open PySem PySem.Spec PyProof.Rows L2
section
variable {K : PySem.W.Frag} {σ σ' : L2.St} {H H0 H' : Hp} {Q : VK} {QB : Bool → Hp → Prop} {i j : Int} {n : Nat} {x y v : V} {a p : Addr} {xs ys acc : List V} {M : List Addr} {W R : List (Addr × HO)}
theorem w_add (q : Q (.int (i + j)) H) : rI0 (fun i j => .int (i + j)) (.int i) (.int j) H Q := w_rI0 q
theorem w_sub (q : Q (.int (i - j)) H) : rI0 (fun i j => .int (i - j)) (.int i) (.int j) H Q := w_rI0 q
theorem w_lt (q : Q (.bl (decide (i < j))) H) : rI0 (fun i j => .bl (decide (i < j))) (.int i) (.int j) H Q := w_rI0 q
theorem w_le (q : Q (.bl (decide (i ≤ j))) H) : rI0 (fun i j => .bl (decide (i ≤ j))) (.int i) (.int j) H Q := w_rI0 q
theorem w_gt (q : Q (.bl (decide (j < i))) H) : rI0 (fun i j => .bl (decide (j < i))) (.int i) (.int j) H Q := w_rI0 q
theorem w_ge (q : Q (.bl (decide (j ≤ i))) H) : rI0 (fun i j => .bl (decide (j ≤ i))) (.int i) (.int j) H Q := w_rI0 q
theorem w_mul (c : CMul i j) (q : Q (.int (i * j)) H) : rI CMul (fun i j => .int (i * j)) (.int i) (.int j) H Q := w_rI c q
theorem w_fdiv (c : CDiv i j) (q : Q (.int (i / j)) H) : rI CDiv (fun i j => .int (i / j)) (.int i) (.int j) H Q := w_rI c q
theorem w_mod (c : 0 < j) (q : Q (.int (i % j)) H) : rI (fun _ j => 0 < j) (fun i j => .int (i % j)) (.int i) (.int j) H Q := w_rI c q
theorem w_fdivW (c : CDivW i j) (q : Q (.int (i / j)) H) : rI CDivW (fun i j => .int (i / j)) (.int i) (.int j) H Q := w_rI c q
theorem w_mulW (c : CMulW i j) (q : Q (.int (i * j)) H) : rI CMulW (fun i j => .int (i * j)) (.int i) (.int j) H Q := w_rI c q
theorem w_pow (c : CPowW i j) (q : Q (.int (i ^ j.toNat)) H) : rI CPowW (fun i j => .int (i ^ j.toNat)) (.int i) (.int j) H Q := w_rI c q
theorem w_neg (q : Q (.int (-i)) H) : rU (fun i => .int (-i)) (.int i) H Q := w_rU q
theorem w_ex2 {QP : V → V → Prop} (q : QP x y) : ∃ u v, [x, y] = [u, v] ∧ QP u v := ⟨x, y, rfl, q⟩
theorem w_ex3 {QP : V → V → V → Prop} (q : QP x y v) : ∃ a b c, [x, y, v] = [a, b, c] ∧ QP a b c := ⟨x, y, v, rfl, q⟩
theorem w_acc {QP : List V → Prop} (h : H p = some (.lst acc)) (l : acc.length < 100000) (q : QP acc) : ∃ acc, H p = some (.lst acc) ∧ acc.length < sizeLine ∧ QP acc := ⟨acc, h, szl l, q⟩
theorem w_intB {QP : Int → Prop} {QB : Bool → Prop} {z : Bool} (q : QB z) : (∃ i, [V.bl z] = [.int i] ∧ QP i) ∨ ∃ k, [V.bl z] = [.bl k] ∧ QB k := .inr ⟨z, rfl, q⟩
theorem w_enum {QP : Addr → Prop} (h : SqL K H p xs) (q : QP p) : ∃ a xs, [V.ref p] = [.ref a] ∧ SqL K H a xs ∧ QP a := ⟨p, xs, rfl, h, q⟩
theorem w_zip {QP : Addr → Addr → Prop} (h : SqL K H p xs) (h2 : SqL K H a ys) (q : QP p a) : ∃ a' b xs ys, [V.ref p, V.ref a] = [.ref a', .ref b] ∧ SqL K H a' xs ∧ SqL K H b ys ∧ QP a' b := ⟨p, a, xs, ys, rfl, h, h2, q⟩
theorem w_all {bs : List Bool} (h : SqL K H p (bs.map V.bl)) (q : Q (.bl (bs.all id)) H) : rAll K [.ref p] H Q := ⟨p, bs, rfl, h, q⟩
theorem w_while {c : TT} {tb : TS} {D : Ends} (Wl : Nat → L2.St → Hp → Prop) (m0 : Nat) (h0 : Wl m0 σ H) (hs : ∀ m σ H, Wl m σ H →
  c σ H fun b H1 => if b = true then ∃ N : L2.St → Hp → Prop, (∀ σ' H', N σ' H' → ∃ m', m' < m ∧ Wl m' σ' H') ∧ tb { D with nx := N, ct := N, bk := D.nx } σ H1 else D.nx σ H1) : tWhile c tb D σ H := ⟨Wl, ⟨m0, h0⟩, hs⟩
theorem w_for {wi : TI} {g : TG} {tb : TS} {D : Ends} (q : wi σ H fun J H1 => ∃ W : Nat → Nat → L2.St → Hp → Prop, (∃ m, W 0 m σ H1) ∧ ∀ i m σ H, W i m σ H →
  (J.stop i H ∧ D.nx σ H) ∨ (J.go i H ∧ ∃ N : L2.St → Hp → Prop, (∀ σ' H', N σ' H' → ∃ m', m' < m ∧ W (i + 1) m' σ' H') ∧ ∀ x H', J.yld i H x H' → g x σ H' fun σ2 H2 => tb { D with nx := N, ct := N, bk := D.nx } σ2 H2)) : tFor wi g tb D σ H := q
/-- for x in range(lo, hi) -/
theorem w_forR2 {ta : TA} {g : TG} {tb : TS} {D : Ends} {lo hi : Int} (Pv : Nat → L2.St → Hp → Prop) (q : ta σ H fun vs H1 => vs = [.int lo, .int hi] ∧ (-(2 ^ 62) ≤ lo ∧ lo < 2 ^ 62 ∧ -(2 ^ 62) ≤ hi ∧ hi < 2 ^ 62) ∧ Pv 0 σ H1)
    (hs : ∀ i σ H, i < (hi - lo).toNat → Pv i σ H → g (.int (lo + i)) σ H fun σ2 H2 => tb { D with nx := Pv (i + 1), ct := Pv (i + 1), bk := D.nx } σ2 H2) (hd : ∀ σ H, Pv (hi - lo).toNat σ H → D.nx σ H)
    (mono : ∀ Q Q', (∀ v H, Q v H → Q' v H) → ta σ H Q → ta σ H Q') : tFor (iRng2 ta) g tb D σ H :=
  mono _ _ (fun _ H1 ⟨e, b, p⟩ => ⟨lo, hi, e, b, for_range (lo := lo) Pv p hs hd⟩) q
theorem w_rng1 {R : It → Hp → Prop} {ta : TA} (q : ta σ H fun vs H1 => ∃ j : Int, vs = [.int j] ∧ -(2 ^ 62) ≤ j ∧ j < 2 ^ 62 ∧ R (Itr 0 j.toNat) H1) : iRng1 ta σ H R := q
theorem w_rng2 {R : It → Hp → Prop} {ta : TA} (q : ta σ H fun vs H1 => ∃ i j : Int, vs = [.int i, .int j] ∧ (-(2 ^ 62) ≤ i ∧ i < 2 ^ 62 ∧ -(2 ^ 62) ≤ j ∧ j < 2 ^ 62) ∧ R (Itr i (j - i).toNat) H1) : iRng2 ta σ H R := q
theorem w_ilist {R : It → Hp → Prop} {tl : TE} (q : tl σ H fun x H1 => ∃ a, x = .ref a ∧ (∃ xs, SqL K H1 a xs) ∧ R (Itl K a) H1) : iList K tl σ H R := q
theorem w_ienum {R : It → Hp → Prop} {ta : TA} (q : ta σ H fun vs H1 => ∃ a xs, vs = [.ref a] ∧ SqL K H1 a xs ∧ R (Ite K a) H1) : iEnum K ta σ H R := q
theorem w_izip {R : It → Hp → Prop} {ta : TA} (q : ta σ H fun vs H1 => ∃ a b xs ys, vs = [.ref a, .ref b] ∧ SqL K H1 a xs ∧ SqL K H1 b ys ∧ R (Itz K a b) H1) : iZip K ta σ H R := q
theorem w_lc {wi : TI} {g : TG} {tt : TT} {te : TE} {vs : List Nat} (q : wi σ H fun J H1 => ∀ D, H1 D = none → ∃ W : Nat → Nat → Hp → Prop, (∃ m, W 0 m (upd H1 D (.lst []))) ∧ ∀ i m H, W i m H →
  (J.stop i H ∧ Q (.ref D) H) ∨ (J.go i H ∧ ∃ Nx : Hp → Prop, (∀ H', Nx H' → ∃ m', m' < m ∧ W (i + 1) m' H') ∧ ∀ x H', J.yld i H x H' → g x (wipe σ vs) H' fun σ2 H2 => wipe σ2 vs = wipe σ vs ∧ tt σ2 H2 fun b H3 =>
    if b = true then te σ2 H3 fun y H4 => ∃ acc, H4 D = some (.lst acc) ∧ acc.length < sizeLine ∧ Nx (upd H4 D (.lst (acc ++ [y]))) else Nx H3)) : tLc wi g tt te vs σ H Q := q
end
theorem okF0_of {P : Program} {w : World} {K : PySem.W.Frag} {mg : Str → Option Value} {base : Heap} {k : Nat} {x : Str} {st : Stmt} {N ps : List Str} {sp : Sp} (D : DefAt K mg x st ps) (S : FnScope N ps (defScope st))
    (len : ∀ vs H Q E, sp vs H Q E → vs.length = ps.length)
    (body : ∀ (f : Addr) (cdv : Value) (A : Around) (fr : List Env) (s : Shared) (H : Hp) (vs : List V) (Q : VK) (E : XK), A.guards = some [] →
      Room k (A.deeper (envOfC x (defScope st) s.heap.objs.size f cdv)) → sp vs H Q E →
      ∃ t, PSs (cxOf CX0 P w K mg base N x (defScope st) f cdv A fr s H E).nox (defBody st) t ∧ t { nx := fun _ H' => Q .non H', rt := Q } (start N vs) H) :
    OkF P w K mg base CX0 (k + 1) x ps sp := okF_of D S len fun f cdv A fr s H vs Q E hG hr h => by
  obtain ⟨t, h1, h2⟩ := body f cdv A fr s H vs Q E hG hr h
  exact ⟨t, h1.nox, h2⟩
end VB
namespace VB
open PySem PySem.Spec PyProof.Rows L2
/-! ### the rules with the written part by its name (for the blocks of comprehensions) -/
section
variable {X : Cx} {K : PySem.W.Frag}
theorem ix_listK (h : X.K = K) : IxR X (rIxL K) := h ▸ ix_list
theorem ix_tupK (h : X.K = K) : IxR X (rIxT K) := h ▸ ix_tup
theorem sl_listK (h : X.K = K) : SlR X (rSlL K) := h ▸ sl_list
theorem sl_tupK (h : X.K = K) : SlR X (rSlT K) := h ▸ sl_tup
def rLen (K : PySem.W.Frag) : List V → Hp → VK → Prop := fun xs H Q => ∃ p ys, xs = [.ref p] ∧ (SqL K H p ys ∨ SqT K H p ys) ∧ Q (.int ys.length) H
theorem call_lenK (h : X.K = K) : CallR X (.builtin "len") (rLen K) := h ▸ call_len_seq
theorem op_inK (h : X.K = K) : OpR X (compareOp .In) (rIn K false) := h ▸ op_in_seq
theorem op_notInK (h : X.K = K) : OpR X (compareOp .NotIn) (rIn K true) := h ▸ op_notIn_seq
theorem op_eqDK (h : X.K = K) (hu : X.A.units + 64 < cLine) : OpR X (compareOp .Eq) (rEqD K) := h ▸ op_eqD hu
theorem op_neDK (h : X.K = K) (hu : X.A.units + 64 < cLine) : OpR X (compareOp .NotEq) (rNeD K) := h ▸ op_neD hu
theorem cr_allK (h : X.K = K) (hc : X.calm = true) : CallR X (.builtin "all") (rAll K) := h ▸ cr_all hc
theorem cr_anyK (h : X.K = K) (hc : X.calm = true) : CallR X (.builtin "any") (rAny K) := h ▸ cr_any hc
theorem call_reprK {k : Nat} (h : X.K = K) (hG : X.A.guards = some []) (hr : Room k X.A) : CallR X (.builtin "repr") (rRepr K) := h ▸ call_reprD hG hr
theorem call_isiK1 (h : X.K = K) : CallR X (.builtin "isinstance") (rIsi K) := h ▸ call_isi
theorem w_rlen {H : Hp} {Q : VK} {p : Addr} {xs : List V} (h : SqL K H p xs ∨ SqT K H p xs) (q : Q (.int xs.length) H) : rLen K [.ref p] H Q := ⟨p, xs, rfl, h, q⟩
variable {id T : String} {o e : Expr} {es : List Expr} {name : Str} {apos pos : Pos} {r : V → List V → Hp → VK → Prop} {to : TE} {t : TA}
end
end VB

namespace VB
open PySem PySem.Spec PyProof.Rows L2
/-! ### values by their type -/
inductive Ty (H : Hp) : V → String → Prop
  | non : Ty H .non "NoneType"
  | bl (b : Bool) : Ty H (.bl b) "bool"
  | int (i : Int) : Ty H (.int i) "int"
  | str (x : Str) : Ty H (.str x) "str"
  | lst {a : Addr} {xs : List V} (e : H a = some (.lst xs)) : Ty H (.ref a) "list"
  | tup {a : Addr} {xs : List V} (e : H a = some (.tup xs)) : Ty H (.ref a) "tuple"
  | dK {a : Addr} {kvs : List (Key × V)} (e : H a = some (.dK kvs)) : Ty H (.ref a) "dict"
section
variable {K : PySem.W.Frag} {H H' : Hp} {Q : VK} {x : V} {n m : String} {b : Bool}
theorem Ty.tyx (h : Ty H x n) : TyX K H x (.type n) := by
  cases h with
  | non => exact .base .non
  | bl b => exact .base (.bl b)
  | int i => exact .base (.int i)
  | str i => exact .base (.str i)
  | lst e => exact .base (.lst e)
  | tup e => exact .base (.tup e)
  | dK e => exact .base (.dK e)
theorem Ty.mono (h : Ty H x n) (k : ∀ a o, H a = some o → H' a = some o) : Ty H' x n := by
  cases h with
  | non => exact .non
  | bl b => exact .bl b
  | int i => exact .int i
  | str i => exact .str i
  | lst e => exact .lst (k _ _ e)
  | tup e => exact .tup (k _ _ e)
  | dK e => exact .dK (k _ _ e)
theorem w_isi (h : Ty H x n) (k : kitB n m = some b) (q : Q (.bl b) H) : rIsi K [x, .ty m] H Q := ⟨x, .ty m, .type n, .type m, b, rfl, .ty m, h.tyx, kit_ty k, q⟩
/-- an int that is no bool, in a range -/
def intIn (x : V) (lo hi : Int) : Bool := match x with
  | .int i => decide (lo ≤ i) && decide (i ≤ hi)
  | _ => false
def isI : V → Bool
  | .int _ => true
  | .bl _ => true
  | _ => false
def isB : V → Bool
  | .bl _ => true
  | _ => false
def isL (H : Hp) : V → Bool
  | .ref a => match H a with
    | some (.lst _) => true
    | _ => false
  | _ => false
theorem w_isInt (h : Ty H x n) (q : Q (.bl (isI x)) H) : rIsi K [x, .ty "int"] H Q := by
  cases h with
  | non => exact w_isi .non (b := false) (by decide +kernel) q
  | bl b => exact w_isi (.bl b) (b := true) (by decide +kernel) q
  | int i => exact w_isi (.int i) (b := true) (by decide +kernel) q
  | str i => exact w_isi (.str i) (b := false) (by decide +kernel) q
  | lst e => exact w_isi (.lst e) (b := false) (by decide +kernel) q
  | tup e => exact w_isi (.tup e) (b := false) (by decide +kernel) q
  | dK e => exact w_isi (.dK e) (b := false) (by decide +kernel) q
theorem w_isBool (h : Ty H x n) (q : Q (.bl (isB x)) H) : rIsi K [x, .ty "bool"] H Q := by
  cases h with
  | non => exact w_isi .non (b := false) (by decide +kernel) q
  | bl b => exact w_isi (.bl b) (b := true) (by decide +kernel) q
  | int i => exact w_isi (.int i) (b := false) (by decide +kernel) q
  | str i => exact w_isi (.str i) (b := false) (by decide +kernel) q
  | lst e => exact w_isi (.lst e) (b := false) (by decide +kernel) q
  | tup e => exact w_isi (.tup e) (b := false) (by decide +kernel) q
  | dK e => exact w_isi (.dK e) (b := false) (by decide +kernel) q
theorem w_isList (h : Ty H x n) (q : Q (.bl (isL H x)) H) : rIsi K [x, .ty "list"] H Q := by
  cases h with
  | non => exact w_isi .non (b := false) (by decide +kernel) q
  | bl b => exact w_isi (.bl b) (b := false) (by decide +kernel) q
  | int i => exact w_isi (.int i) (b := false) (by decide +kernel) q
  | str i => exact w_isi (.str i) (b := false) (by decide +kernel) q
  | lst e => refine w_isi (.lst e) (by decide +kernel) (b := true) ?_; simpa [isL, e] using q
  | tup e => refine w_isi (.tup e) (by decide +kernel) (b := false) ?_; simpa [isL, e] using q
  | dK e => refine w_isi (.dK e) (by decide +kernel) (b := false) ?_; simpa [isL, e] using q
end
/-! ### the form of a log, of values -/
def formL (xs : List V) : Bool := decide (1 ≤ xs.length) && decide (xs.length ≤ 150) && (List.range xs.length).all fun i => intIn (xs.getD i .non) 0 (max 0 ((i : Int) - 1))
def formV (H : Hp) : V → Bool
  | .ref a => match H a with
    | some (.lst xs) => formL xs
    | _ => false
  | _ => false
/-- a list of ints with the form of a log -/
def Form (ns : List Int) : Prop := 1 ≤ ns.length ∧ ns.length ≤ 150 ∧ ∀ i (h : i < ns.length), 0 ≤ ns[i] ∧ ns[i] ≤ max 0 ((i : Int) - 1)
theorem formL_ints (ns : List Int) : formL (ns.map V.int) = true ↔ Form ns := by
  unfold formL Form
  simp only [Bool.and_eq_true, decide_eq_true_eq, List.length_map, List.all_eq_true, List.mem_range, and_assoc]
  refine and_congr Iff.rfl (and_congr Iff.rfl (forall_congr' fun i => ?_))
  constructor
  · intro h hi
    have := h hi
    simpa [intIn, List.getD_eq_getElem?_getD, hi] using this
  · intro h hi
    simpa [intIn, List.getD_eq_getElem?_getD, hi] using h hi
theorem Form.nat {ns : List Int} (h : Form ns) {i : Nat} (hi : i < ns.length) : 0 ≤ ns[i] ∧ ns[i] ≤ i := by
  have := h.2.2 i hi
  omega
theorem Form.lt {ns : List Int} (h : Form ns) {i : Nat} (hi : i < ns.length) (h1 : 1 ≤ i) : ns[i] < i := by
  have := h.2.2 i hi
  omega
theorem Form.small {ns : List Int} (h : Form ns) : ∀ n ∈ ns, n.natAbs < 10 ^ 12 := by
  intro n hn
  obtain ⟨i, hi, e⟩ := List.mem_iff_getElem.mp hn
  have h1 := h.nat hi
  have h2 := h.2.1
  rw [e] at h1
  have : n.natAbs < 200 := by omega
  exact Nat.lt_trans this (by decide)
/-! ### crossing entries -/
def Cross (ns : List Int) (i j : Nat) : Prop := 1 ≤ i ∧ i < j ∧ ∃ a b, ns[i]? = some a ∧ ns[j]? = some b ∧ a < b ∧ b < (i : Int)
/-- the least pair, as both programs look for it -/
def Least (ns : List Int) : Option (Nat × Nat) → Prop
  | none => ∀ i j, ¬ Cross ns i j
  | some (i, j) => Cross ns i j ∧ (∀ i' j', Cross ns i' j' → i ≤ i') ∧ ∀ j', Cross ns i j' → j ≤ j'
theorem Least.same {ns : List Int} : ∀ {a b : Option (Nat × Nat)}, Least ns a → Least ns b → a = b
  | none, none, _, _ => rfl
  | none, some (i, j), h, h' => (h i j h'.1).elim
  | some (i, j), none, h, h' => (h' i j h.1).elim
  | some (i, j), some (i', j'), h, h' => by
    have e : i = i' := Nat.le_antisymm (h.2.1 _ _ h'.1) (h'.2.1 _ _ h.1)
    subst e
    have e2 : j = j' := Nat.le_antisymm (h.2.2 _ h'.1) (h'.2.2 _ h.1)
    rw [e2]
end VB
namespace VB
open PySem PySem.Spec PyProof.Rows L2
theorem binds1 {K : PySem.W.Frag} {x qual p : Str} {st : Stmt} {f : Addr} {fd : FuncData} (F : Fun K x qual st f fd) (hb : ∀ (kV doc pm : Value) (an : Option Addr) (cdv ct u : Value), bindArgs (PySem.W.fnOf x qual (defArgs st) (defBody st) (defScope st) .none kV doc pm an cdv ct) ⟨[u], []⟩ = pure [(p, u)]) (s : Shared) (u : Value) :
    BindsTo s fd ⟨[u], []⟩ [(p, u)] := by
  obtain ⟨oc, od, kV, doc, pm, an, cdv, ct, osl, rfl, lk, hcd⟩ := F.ex
  exact .of_eq (hb kV doc pm an cdv ct u)
theorem same_fd {P : Program} {w : World} {K : PySem.W.Frag} {mg : Str → Option Value} {base : Heap} {CX : CXT} {k : Nat} {f : Addr} {fd : FuncData} {ps : List Str} {sp : Sp} {x : Str} {st : Stmt} (F : Fun K x x st f fd) (m : mg x = some (.ref f)) (O : OkF P w K mg base CX k x ps sp) : GFn P w K mg base CX k f fd ps sp := by
  obtain ⟨oc, od, kV, doc, pm, an, cdv, ct, osl, rfl, lk, hcd⟩ := F.ex
  obtain ⟨f', fd', m', _, _, ⟨oc', od', osl', lk'⟩, G⟩ := O.ex
  have e1 : f = f' := Value.ref.inj (Option.some.inj (m.symm.trans m'))
  subst e1
  have e := lk.symm.trans lk'
  cases e
  exact G
/-- the law's promise -/
def spLaw (K : PySem.W.Frag) : Sp := sp1 fun x H Q => ∃ (a : Addr) (ns : List Int), x = .ref a ∧ SqL K H a (ns.map V.int) ∧ ns.length ≤ 63 ∧ ∀ H', Q (.bl true) H'
theorem law_start {K : PySem.W.Frag} {H : Hp} {a : Addr} {ns : List Int} (hl : ns.length ≤ 63) (hS : SqL K H a (ns.map V.int)) : spLaw K [.ref a] H (fun v _ => v = .bl true) fun _ _ _ => False :=
  ⟨.ref a, rfl, a, ns, rfl, hS, hl, fun _ => rfl⟩
end VB
namespace VB
open PySem PySem.Spec PyProof.Rows L2
/-! ### the vat that the laws draw from -/
def VatO (n : Nat) (o : HO) : Prop := ∃ a b c : Int, o = .lst [.int a, .int b, .int c] ∧ 0 ≤ a ∧ 0 ≤ b ∧ b < 2 ^ 140 ∧ 0 ≤ c ∧ c ≤ n
theorem VatO.le {n m : Nat} {o : HO} (h : VatO n o) (hm : n ≤ m) : VatO m o := by
  obtain ⟨a, b, c, e, h1, h2, h3, h4, h5⟩ := h
  exact ⟨a, b, c, e, h1, h2, h3, h4, by omega⟩
end VB
namespace VB
open PySem PySem.Spec PyProof.Rows L2
def at0 (ns : List Int) (i : Int) : Int := ns.getD i.toNat 0
theorem atI_int {ns : List Int} {i : Int} (h0 : 0 ≤ i) (h : i < ns.length) : atI (ns.map V.int) i = some (.int (at0 ns i)) := by
  obtain ⟨n, rfl⟩ : ∃ n : Nat, i = (n : Int) := ⟨i.toNat, by omega⟩
  have hi : n < ns.length := by omega
  refine atI_nat ?_
  simp [at0, hi]
theorem at0_get {ns : List Int} {i : Nat} (h : i < ns.length) : at0 ns (i : Int) = ns[i] := by simp [at0, h]
end VB
namespace VB
open PySem PySem.Spec PyProof.Rows L2
/-! ### logs and the targets that are allowed -/
def NoCross (ns : List Int) : Prop := ∀ i j, ¬ Cross ns i j
structure Log (ns : List Int) : Prop where
  form : Form ns
  nc : NoCross ns
def Allow (ns : List Int) (t : Int) : Prop := 0 ≤ t ∧ t < ns.length ∧ ∀ (i : Nat) (l : Int), t < i → ns[i]? = some l → t ≤ l
structure LT (ns ts : List Int) : Prop where
  form : Form ns
  nc : NoCross ns
  asc : ts.Pairwise (· < ·)
  mem : ∀ t, t ∈ ts ↔ Allow ns t
theorem LT.log {ns ts : List Int} (h : LT ns ts) : Log ns := ⟨h.form, h.nc⟩
theorem form_one : Form [0] := by
  refine ⟨by simp, by simp, fun i h => ?_⟩
  have : i = 0 := by simpa using h
  subst this
  simp
  omega
theorem noCross_one : NoCross [0] := fun i j h => by
  obtain ⟨h1, h2, a, b, h3, h4, _⟩ := h
  have := (List.getElem?_eq_some_iff.mp h4).1
  simp at this
  omega
theorem allow_last {ns : List Int} (h : 1 ≤ ns.length) : Allow ns ((ns.length : Int) - 1) :=
  ⟨by omega, by omega, fun i l h1 h2 => by have := (List.getElem?_eq_some_iff.mp h2).1; omega⟩
theorem allow_zero {ns : List Int} (h : Form ns) : Allow ns 0 :=
  ⟨by omega, by have := h.1; omega, fun i l _ h2 => by
    obtain ⟨hi, e⟩ := List.getElem?_eq_some_iff.mp h2
    have := h.nat hi
    omega⟩
theorem LT.one : LT [0] [0] := by
  refine ⟨form_one, noCross_one, by simp, fun t => ?_⟩
  constructor
  · intro h
    have e : t = 0 := by simpa using h
    subst e
    exact allow_zero form_one
  · rintro ⟨h1, h2, _⟩
    have e : t = 0 := by simp at h2; omega
    simp [e]
theorem get_snoc {ns : List Int} {l a : Int} {i : Nat} (h : (ns ++ [l])[i]? = some a) : (i < ns.length ∧ ns[i]? = some a) ∨ (i = ns.length ∧ a = l) := by
  by_cases hi : i < ns.length
  · rw [List.getElem?_append_left hi] at h; exact .inl ⟨hi, h⟩
  · rw [List.getElem?_append_right (by omega)] at h
    have h2 := (List.getElem?_eq_some_iff.mp h).1
    have e : i = ns.length := by simp at h2; omega
    subst e
    simp at h
    exact .inr ⟨rfl, h.symm⟩
theorem form_snoc {ns : List Int} {l : Int} (h : Form ns) (h0 : 0 ≤ l) (h1 : l < ns.length) (h2 : ns.length < 150) : Form (ns ++ [l]) := by
  refine ⟨by simp, by simp; omega, fun i hi => ?_⟩
  rcases get_snoc (List.getElem?_eq_getElem hi) with ⟨h3, h4⟩ | ⟨h3, h4⟩
  · have := h.2.2 i h3
    rw [List.getElem?_eq_getElem h3] at h4
    rw [← Option.some.inj h4]; exact this
  · rw [h4]; omega
theorem noCross_snoc {ns : List Int} {l : Int} (h : NoCross ns) (ha : Allow ns l) : NoCross (ns ++ [l]) := by
  rintro i j ⟨h1, h2, a, b, h3, h4, h5, h6⟩
  rcases get_snoc h4 with ⟨h7, h8⟩ | ⟨h7, h8⟩
  · rcases get_snoc h3 with ⟨h9, h10⟩ | ⟨h9, h10⟩
    · exact h i j ⟨h1, h2, a, b, h10, h8, h5, h6⟩
    · omega
  · rcases get_snoc h3 with ⟨h9, h10⟩ | ⟨h9, h10⟩
    · have := ha.2.2 i a (by omega) h10
      omega
    · omega
theorem cross_snoc {ns : List Int} {l : Int} (h1 : Form ns) (h0 : 0 ≤ l) (hl : l < ns.length) (ha : ¬ Allow ns l) : ∃ i, Cross (ns ++ [l]) i ns.length := by
  apply Classical.byContradiction
  intro hn
  refine ha ⟨h0, hl, fun i a hi ha => ?_⟩
  have hin := (List.getElem?_eq_some_iff.mp ha).1
  apply Classical.byContradiction
  intro hlt
  exact hn ⟨i, by omega, hin, a, l, by rw [List.getElem?_append_left hin]; exact ha, by simp, by omega, hi⟩
theorem allow_snoc {ns : List Int} {l t : Int} : Allow (ns ++ [l]) t ↔ (Allow ns t ∧ t ≤ l) ∨ t = ns.length := by
  constructor
  · rintro ⟨h1, h2, h3⟩
    by_cases e : t = ns.length
    · exact .inr e
    · left
      have ht : t < ns.length := by simp at h2; omega
      refine ⟨⟨h1, ht, fun i a hi ha => ?_⟩, ?_⟩
      · have hin := (List.getElem?_eq_some_iff.mp ha).1
        exact h3 i a hi (by rw [List.getElem?_append_left hin]; exact ha)
      · exact h3 ns.length l ht (by simp)
  · rintro (⟨⟨h1, h2, h3⟩, h4⟩ | h)
    · refine ⟨h1, by simp; omega, fun i a hi ha => ?_⟩
      rcases get_snoc ha with ⟨h5, h6⟩ | ⟨h5, h6⟩
      · exact h3 i a hi h6
      · rw [h6]; exact h4
    · refine ⟨by omega, by simp; omega, fun i a hi ha => ?_⟩
      have := (List.getElem?_eq_some_iff.mp ha).1
      simp at this
      omega
theorem asc_get {ts : List Int} (h : ts.Pairwise (· < ·)) {i j : Nat} {a b : Int} (hi : ts[i]? = some a) (hj : ts[j]? = some b) (hij : i < j) : a < b := by
  obtain ⟨h1, rfl⟩ := List.getElem?_eq_some_iff.mp hi
  obtain ⟨h2, rfl⟩ := List.getElem?_eq_some_iff.mp hj
  exact List.pairwise_iff_getElem.mp h i j h1 h2 hij
/-- one more link, the one at a place of the allowed ones -/
theorem LT.step {ns ts : List Int} (h : LT ns ts) {s : Nat} {l : Int} (hs : ts[s]? = some l) (hz : ns.length < 150) : LT (ns ++ [l]) (ts.take (s + 1) ++ [(ns.length : Int)]) := by
  have hl : Allow ns l := (h.mem l).mp (List.mem_of_getElem? hs)
  have take_mem : ∀ t, t ∈ ts.take (s + 1) ↔ t ∈ ts ∧ t ≤ l := by
    intro t
    constructor
    · intro ht
      obtain ⟨i, hi, e⟩ := List.mem_iff_getElem.mp ht
      rw [List.length_take] at hi
      rw [List.getElem_take] at e
      have e2 : ts[i]? = some t := by rw [List.getElem?_eq_getElem (by omega), e]
      refine ⟨List.mem_of_getElem? e2, ?_⟩
      by_cases q : i = s
      · subst q; rw [e2] at hs; have := Option.some.inj hs; omega
      · have := asc_get h.asc e2 hs (by omega); omega
    · rintro ⟨ht, hle⟩
      obtain ⟨i, hi, e⟩ := List.mem_iff_getElem.mp ht
      have e2 : ts[i]? = some t := by rw [List.getElem?_eq_getElem hi, e]
      have his : i ≤ s := by
        apply Classical.byContradiction
        intro q
        have := asc_get h.asc hs e2 (by omega)
        omega
      exact List.mem_of_getElem? (i := i) (by rw [List.getElem?_take_of_lt (by omega)]; exact e2)
  refine ⟨form_snoc h.form hl.1 hl.2.1 hz, noCross_snoc h.nc hl, ?_, fun t => ?_⟩
  · rw [List.pairwise_append]
    refine ⟨h.asc.sublist (List.take_sublist _ _), by simp, fun a ha b hb => ?_⟩
    have e : b = ns.length := by simpa using hb
    have := ((h.mem a).mp ((take_mem a).mp ha).1).2.1
    omega
  · rw [List.mem_append, take_mem, h.mem, allow_snoc]
    simp
theorem asc_ext : ∀ {xs ys : List Int}, xs.Pairwise (· < ·) → ys.Pairwise (· < ·) → (∀ t, t ∈ xs ↔ t ∈ ys) → xs = ys
  | [], [], _, _, _ => rfl
  | [], y :: ys, _, _, h => by simpa using (h y).mpr (List.mem_cons_self ..)
  | x :: xs, [], _, _, h => by simpa using (h x).mp (List.mem_cons_self ..)
  | x :: xs, y :: ys, hx, hy, h => by
    obtain ⟨hx1, hx2⟩ := List.pairwise_cons.mp hx
    obtain ⟨hy1, hy2⟩ := List.pairwise_cons.mp hy
    have e : x = y := by
      rcases List.mem_cons.mp ((h x).mp (List.mem_cons_self ..)) with a | a
      · exact a
      · rcases List.mem_cons.mp ((h y).mpr (List.mem_cons_self ..)) with b | b
        · exact b.symm
        · have := hy1 x a; have := hx1 y b; omega
    subst e
    have : xs = ys := asc_ext hx2 hy2 fun t => by
      have := h t
      simp only [List.mem_cons] at this
      constructor
      · intro ht
        rcases this.mp (.inr ht) with q | q
        · subst q; have := hx1 t ht; omega
        · exact q
      · intro ht
        rcases this.mpr (.inr ht) with q | q
        · subst q; have := hy1 t ht; omega
        · exact q
    rw [this]
theorem LT.uniq {ns ts us : List Int} (h : LT ns ts) (h' : LT ns us) : ts = us := asc_ext h.asc h'.asc fun t => by rw [h.mem, h'.mem]
theorem LT.bnd {ns ts : List Int} (h : LT ns ts) : ∀ t ∈ ts, 0 ≤ t ∧ t < ns.length := fun t ht => ⟨((h.mem t).mp ht).1, ((h.mem t).mp ht).2.1⟩
theorem LT.len {ns ts : List Int} (h : LT ns ts) : 1 ≤ ts.length ∧ ts.length ≤ ns.length := by
  have hz : (0 : Int) ∈ ts := (h.mem 0).mpr (allow_zero h.form)
  refine ⟨by cases ts with | nil => simp at hz | cons _ _ => simp, ?_⟩
  -- an ascending list within 0 .. n - 1
  have key : ∀ (xs : List Int) (lo : Int), xs.Pairwise (· < ·) → (∀ t ∈ xs, lo ≤ t ∧ t < ns.length) → lo ≤ ns.length → (xs.length : Int) ≤ ns.length - lo := by
    intro xs
    induction xs with
    | nil => intro lo _ _ hlo; simp; omega
    | cons x xs ih =>
      intro lo hp hb hlo
      obtain ⟨h1, h2⟩ := List.pairwise_cons.mp hp
      have hx := hb x (List.mem_cons_self ..)
      have := ih (x + 1) h2 (fun t ht => ⟨by have := h1 t ht; omega, (hb t (List.mem_cons_of_mem _ ht)).2⟩) (by omega)
      simp only [List.length_cons]
      omega
  have := key ts 0 h.asc (fun t ht => h.bnd t ht) (by omega)
  omega
theorem LT.last {ns ts : List Int} (h : LT ns ts) : ts.getLast? = some ((ns.length : Int) - 1) := by
  have hm : ((ns.length : Int) - 1) ∈ ts := (h.mem _).mpr (allow_last h.form.1)
  obtain ⟨i, hi, e⟩ := List.mem_iff_getElem.mp hm
  rw [List.getLast?_eq_getElem?]
  by_cases q : i = ts.length - 1
  · subst q; rw [List.getElem?_eq_getElem hi, e]
  · have hl : ts.length - 1 < ts.length := by omega
    have h1 := asc_get h.asc (List.getElem?_eq_getElem hi) (List.getElem?_eq_getElem hl) (by omega)
    have h2 := (h.bnd _ (List.getElem_mem hl)).2
    omega
end VB
namespace VB
open PySem PySem.Spec PyProof.Rows L2
/-! ### lists of ints: pieces -/
theorem snoc_int {ns : List Int} {l : Int} : ns.map V.int ++ [V.int l] = (ns ++ [l]).map V.int := by simp
theorem cat_int {ns ms : List Int} : ns.map V.int ++ ms.map V.int = (ns ++ ms).map V.int := by simp
theorem sIx_nn {n d : Nat} {k : Int} (h : 0 ≤ k) : HT.sIx n d (some k) = min k.toNat n := by
  obtain ⟨m, rfl⟩ : ∃ m : Nat, k = (m : Int) := ⟨k.toNat, by omega⟩
  rw [HT.sIx_nat]
  simp
theorem cut_to {xs : List V} {k : Int} (h : 0 ≤ k) : cutV xs none (some k) = xs.take k.toNat := by
  unfold cutV
  rw [HT.sIx_none, sIx_nn h, List.drop_zero, Nat.sub_zero]
  by_cases q : k.toNat ≤ xs.length
  · rw [Nat.min_eq_left q]
  · rw [Nat.min_eq_right (by omega), List.take_of_length_le (by omega), List.take_of_length_le (by omega)]
theorem cut_from {xs : List V} {k : Int} (h : 0 ≤ k) : cutV xs (some k) none = xs.drop k.toNat := by
  unfold cutV
  rw [HT.sIx_none, sIx_nn h]
  by_cases q : k.toNat ≤ xs.length
  · rw [Nat.min_eq_left q, List.take_of_length_le (by simp)]
  · rw [Nat.min_eq_right (by omega), List.take_of_length_le (by simp), List.drop_of_length_le (by omega), List.drop_of_length_le (by omega)]
theorem cut_to_int {ns : List Int} {k : Int} (h : 0 ≤ k) : cutV (ns.map V.int) none (some k) = (ns.take k.toNat).map V.int := by rw [cut_to h, List.map_take]
theorem cut_from_int {ns : List Int} {k : Int} (h : 0 ≤ k) : cutV (ns.map V.int) (some k) none = (ns.drop k.toNat).map V.int := by rw [cut_from h, List.map_drop]
theorem at0_mem {ns : List Int} {i : Int} (h0 : 0 ≤ i) (h : i < ns.length) : at0 ns i ∈ ns := by
  obtain ⟨n, rfl⟩ : ∃ n : Nat, i = (n : Int) := ⟨i.toNat, by omega⟩
  have hi : n < ns.length := by omega
  rw [at0_get hi]
  exact List.getElem_mem hi
theorem at0_n {ns : List Int} {n : Nat} {i : Int} (e : i = n) (h : n < ns.length) : ns[n]? = some (at0 ns i) := by
  subst e
  rw [at0_get h]
  simp [h]
theorem at0_get? {ns : List Int} {i : Int} (h0 : 0 ≤ i) (h : i < ns.length) : ns[i.toNat]? = some (at0 ns i) := by
  obtain ⟨n, rfl⟩ : ∃ n : Nat, i = (n : Int) := ⟨i.toNat, by omega⟩
  have hi : n < ns.length := by omega
  rw [at0_get hi]
  simp [hi]
end VB
namespace VB
open PySem PySem.Spec PyProof.Rows L2
def crossB (ns : List Int) (i j : Nat) : Bool := decide (1 ≤ i) && decide (i < j) && decide (j < ns.length) && decide (ns.getD i 0 < ns.getD j 0) && decide (ns.getD j 0 < i)
theorem cross_iff {ns : List Int} {i j : Nat} : Cross ns i j ↔ crossB ns i j = true := by
  unfold Cross crossB
  simp only [Bool.and_eq_true, decide_eq_true_eq, and_assoc]
  constructor
  · rintro ⟨h1, h2, a, b, h3, h4, h5, h6⟩
    have hj := (List.getElem?_eq_some_iff.mp h4).1
    refine ⟨h1, h2, hj, ?_, ?_⟩
    · rw [List.getD_eq_getElem?_getD, List.getD_eq_getElem?_getD, h3, h4]; exact h5
    · rw [List.getD_eq_getElem?_getD, h4]; exact h6
  · rintro ⟨h1, h2, h3, h4, h5⟩
    refine ⟨h1, h2, ns.getD i 0, ns.getD j 0, ?_, ?_, h4, h5⟩
    · rw [List.getD_eq_getElem?_getD, List.getElem?_eq_getElem (by omega)]; rfl
    · rw [List.getD_eq_getElem?_getD, List.getElem?_eq_getElem h3]; rfl
theorem cross_lt {ns : List Int} {i j : Nat} (h : Cross ns i j) : i < ns.length ∧ j < ns.length := by
  obtain ⟨_, h2, _, _, _, h4, _⟩ := h
  have := (List.getElem?_eq_some_iff.mp h4).1
  omega
theorem least_known {ns : List Int} {i j : Nat} (h : crossB ns i j = true) (h2 : (List.range ns.length).all (fun i' => (List.range ns.length).all fun j' => !crossB ns i' j' || (decide (i ≤ i') && (!decide (i' = i) || decide (j ≤ j')))) = true) : Least ns (some (i, j)) := by
  have all : ∀ i' j', Cross ns i' j' → i ≤ i' ∧ (i' = i → j ≤ j') := by
    intro i' j' hc
    obtain ⟨b1, b2⟩ := cross_lt hc
    have h3 := List.all_eq_true.mp (List.all_eq_true.mp h2 i' (List.mem_range.mpr b1)) j' (List.mem_range.mpr b2)
    rw [cross_iff.mp hc] at h3
    simp only [Bool.not_true, Bool.false_or, Bool.and_eq_true, Bool.or_eq_true, decide_eq_true_eq, Bool.not_eq_true', decide_eq_false_iff_not] at h3
    exact ⟨h3.1, fun e => h3.2.elim (fun z => (z e).elim) id⟩
  exact ⟨cross_iff.mpr h, fun i' j' hc => (all i' j' hc).1, fun j' hc => (all i j' hc).2 rfl⟩
theorem least_none {ns : List Int} (h2 : (List.range ns.length).all (fun i' => (List.range ns.length).all fun j' => !crossB ns i' j') = true) : Least ns none := by
  intro i' j' hc
  obtain ⟨b1, b2⟩ := cross_lt hc
  have h3 := List.all_eq_true.mp (List.all_eq_true.mp h2 i' (List.mem_range.mpr b1)) j' (List.mem_range.mpr b2)
  rw [cross_iff.mp hc] at h3
  simp at h3
theorem form_known {ns : List Int} (h : formL (ns.map V.int) = true) : Form ns := (formL_ints ns).mp h
theorem form_set {ns : List Int} (h : Form ns) {k : Nat} {d : Int} (h0 : 0 ≤ d) (h1 : d < k) : Form (ns.set k d) := by
  refine ⟨by simpa using h.1, by simpa using h.2.1, fun i hi => ?_⟩
  have hi2 : i < ns.length := by simpa using hi
  rw [List.getElem_set]
  split
  · omega
  · exact h.2.2 i hi2
theorem set_int {ns : List Int} {k : Nat} {d : Int} : (ns.map V.int).set k (.int d) = (ns.set k d).map V.int := by rw [List.map_set]
theorem ixN_nn {n : Nat} {i : Int} (h0 : 0 ≤ i) (h1 : i < n) : ixN n i = some i.toNat := by
  unfold ixN
  rw [if_pos h0, if_pos h1]
section
variable {K : PySem.W.Frag} {H : Hp} {Q : VK} {x y : V}
theorem w_eqSame {d : PyData} (h1 : Dp K H x d) (h2 : Dp K H y d) (h : SeqAt.shaped d = true) (q : Q (.bl true) H) : rEqD K x y H Q :=
  ⟨d, d, h1, h2, h, h, by rw [SeqAt.eqv_refl d (SeqAt.canLay_of_shaped h)]; exact q⟩
end
end VB
namespace VB
open PySem PySem.Spec PyProof.Rows L2
/-! ### beginnings of logs -/
theorem form_take {ns : List Int} (h : Form ns) {k : Nat} (h1 : 1 ≤ k) (hk : k ≤ ns.length) : Form (ns.take k) := by
  refine ⟨by simp; omega, by have := h.2.1; simp; omega, fun i hi => ?_⟩
  have hi2 : i < ns.length := by simp at hi; omega
  rw [List.getElem_take]
  exact h.2.2 i hi2
theorem cross_take {ns : List Int} {k i j : Nat} (h : Cross (ns.take k) i j) : Cross ns i j := by
  obtain ⟨h1, h2, a, b, h3, h4, h5, h6⟩ := h
  have q : ∀ {i : Nat} {a : Int}, (ns.take k)[i]? = some a → ns[i]? = some a := by
    intro i a e
    have hl := (List.getElem?_eq_some_iff.mp e).1
    rw [List.length_take] at hl
    rwa [List.getElem?_take_of_lt (by omega)] at e
  exact ⟨h1, h2, a, b, q h3, q h4, h5, h6⟩
theorem noCross_take {ns : List Int} (h : NoCross ns) (k : Nat) : NoCross (ns.take k) := fun i j hc => h i j (cross_take hc)
theorem log_take {ns : List Int} (h : Log ns) {k : Nat} (h1 : 1 ≤ k) (hk : k ≤ ns.length) : Log (ns.take k) := ⟨form_take h.form h1 hk, noCross_take h.nc k⟩
theorem take_snoc {ns : List Int} {k : Nat} {l : Int} (h : ns[k]? = some l) : ns.take (k + 1) = ns.take k ++ [l] := by
  rw [List.take_add_one, h]
  rfl
theorem take_pop {ns : List Int} {k : Nat} {l : Int} (h : ns[k]? = some l) : (ns.take (k + 1)).map V.int = (ns.take k).map V.int ++ [V.int l] := by
  rw [take_snoc h]
  simp
theorem formL_is_ints : ∀ {xs : List V}, formL xs = true → ∃ ns, xs = ns.map V.int ∧ Form ns := by
  intro xs h
  have h0 := h
  unfold formL at h
  simp only [Bool.and_eq_true, decide_eq_true_eq, List.all_eq_true, List.mem_range] at h
  have key : ∀ ys : List V, (∀ i, i < ys.length → ∃ z, ys.getD i .non = .int z) → ∃ ns : List Int, ys = ns.map V.int := by
    intro ys
    induction ys with
    | nil => intro _; exact ⟨[], rfl⟩
    | cons y ys ih =>
      intro hy
      obtain ⟨z, hz⟩ := hy 0 (by simp)
      obtain ⟨ns, hn⟩ := ih fun i hi => by
        obtain ⟨z, hz⟩ := hy (i + 1) (by simp; omega)
        exact ⟨z, by simpa using hz⟩
      refine ⟨z :: ns, ?_⟩
      have : y = .int z := by simpa using hz
      rw [this, hn]
      rfl
  obtain ⟨ns, e⟩ := key xs fun i hi => by
    have := h.2 i hi
    cases q : xs.getD i .non with
    | int z => exact ⟨z, rfl⟩
    | _ => rw [q] at this; simp [intIn] at this
  subst e
  exact ⟨ns, rfl, (formL_ints ns).mp h0⟩
/-- the value at x is a log -/
def LogV (H : Hp) (x : V) : Prop := ∃ a ns, x = .ref a ∧ H a = some (.lst (List.map V.int ns)) ∧ Log ns
theorem map_int_inj {ns ms : List Int} (h : ns.map V.int = ms.map V.int) : ns = ms := by
  induction ns generalizing ms with
  | nil => cases ms <;> simp at h ⊢
  | cons n ns ih =>
    cases ms with
    | nil => simp at h
    | cons m ms =>
      simp only [List.map_cons, List.cons.injEq] at h
      rw [V.int.inj h.1, ih h.2]
theorem not_allow_of {ns ts : List Int} (h : LT ns ts) {s : Nat} {l u : Int} (hs : ts[s]? = some u) (hlt : u < l) (hup : ∀ (i : Nat) (x : Int), ts[i]? = some x → s < i → l < x) : ¬ Allow ns l := by
  intro ha
  obtain ⟨i, hi, e⟩ := List.mem_iff_getElem.mp ((h.mem l).mpr ha)
  have e2 : ts[i]? = some l := by rw [List.getElem?_eq_getElem hi, e]
  by_cases q : s < i
  · have := hup i l e2 q; omega
  · by_cases q2 : i = s
    · subst q2; rw [e2] at hs; have := Option.some.inj hs; omega
    · have := asc_get h.asc e2 hs (by omega); omega
theorem atI_last_int {ts : List Int} {s : Nat} {u : Int} (hs : ts[s]? = some u) : atI ((ts.take (s + 1)).map V.int) (-1) = some (.int u) := by
  rw [take_pop hs]
  exact atI_last _ _
end VB
namespace VB
open PySem PySem.Spec PyProof.Rows L2
theorem LT.stepF {ns ts : List Int} (h : LT ns ts) {l : Int} (hl : l ∈ ts) (hz : ns.length < 150) : LT (ns ++ [l]) (ts.filter (fun t => decide (t ≤ l)) ++ [(ns.length : Int)]) := by
  have ha : Allow ns l := (h.mem l).mp hl
  refine ⟨form_snoc h.form ha.1 ha.2.1 hz, noCross_snoc h.nc ha, ?_, fun t => ?_⟩
  · rw [List.pairwise_append]
    refine ⟨h.asc.sublist List.filter_sublist, by simp, fun a hm b hb => ?_⟩
    have e : b = ns.length := by simpa using hb
    have := (h.bnd a (List.mem_filter.mp hm).1).2
    omega
  · rw [List.mem_append, List.mem_filter, h.mem, allow_snoc]
    simp
theorem atI_neg1 {ts : List Int} {u : Int} (h : ts.getLast? = some u) : atI (ts.map V.int) (-1) = some (.int u) := by
  have e : ts = ts.dropLast ++ [u] := by
    obtain ⟨h1, h2⟩ := List.getLast?_eq_some_iff.mp h
    rw [h2]
    simp
  rw [e, List.map_append]
  exact atI_last _ _
theorem inV_ints {t : Int} : ∀ ts : List Int, inV (.int t) (ts.map V.int) = decide (t ∈ ts)
  | [] => by simp [inV]
  | x :: xs => by
    have ih := inV_ints (t := t) xs
    unfold inV at ih ⊢
    rw [List.map_cons, List.any_cons, ih]
    by_cases q : x = t
    · subst q; simp [eqV]
    · have q2 : ¬ t = x := fun e => q e.symm
      simp [eqV, q, q2]
theorem flat_ints : ∀ ts : List Int, (ts.map V.int).all flatV = true
  | [] => rfl
  | x :: xs => by rw [List.map_cons, List.all_cons, flat_ints xs]; rfl
section
variable {K : PySem.W.Frag} {H : Hp} {Q : VK} {a : Addr} {t : Int} {ts : List Int}
theorem w_inI (h : SqL K H a (ts.map V.int)) (q : Q (.bl (decide (t ∈ ts))) H) : rIn K false (.int t) (.ref a) H Q :=
  ⟨a, _, rfl, .inl h, rfl, flat_ints ts, by rw [inV_ints]; exact q⟩
theorem w_notInI (h : SqL K H a (ts.map V.int)) (q : Q (.bl (!decide (t ∈ ts))) H) : rIn K true (.int t) (.ref a) H Q :=
  ⟨a, _, rfl, .inl h, rfl, flat_ints ts, by rw [inV_ints]; exact q⟩
end
theorem ty_ints {H : Hp} {a : Addr} {ns : List Int} (ha : H a = some (.lst (ns.map V.int))) : (∃ n, Ty H (.ref a) n) ∧ ∀ a' xs, V.ref a = .ref a' → H a' = some (.lst xs) → ∀ y ∈ xs, ∃ n, Ty H y n := by
  refine ⟨⟨_, .lst ha⟩, fun b xs e hb y hy => ?_⟩
  cases e
  rw [ha] at hb
  cases hb
  obtain ⟨n, _, rfl⟩ := List.mem_map.mp hy
  exact ⟨_, .int n⟩
theorem logV_ints {H : Hp} {a : Addr} {ns : List Int} (ha : H a = some (.lst (ns.map V.int))) : LogV H (.ref a) ↔ Log ns := by
  constructor
  · rintro ⟨a', ns', e1, ha', hL⟩
    cases e1
    rw [ha] at ha'
    rw [map_int_inj (HO.lst.inj (Option.some.inj ha'))]
    exact hL
  · exact fun h => ⟨a, ns, rfl, ha, h⟩
theorem cross_last {ns : List Int} {l : Int} (h : NoCross ns) {i j : Nat} (hc : Cross (ns ++ [l]) i j) : j = ns.length ∧ ∃ a, ns[i]? = some a ∧ i < ns.length ∧ a < l ∧ l < (i : Int) := by
  obtain ⟨h1, h2, a, b, h3, h4, h5, h6⟩ := hc
  rcases get_snoc h4 with ⟨h7, h8⟩ | ⟨h7, h8⟩
  · rcases get_snoc h3 with ⟨h9, h10⟩ | ⟨h9, h10⟩
    · exact (h i j ⟨h1, h2, a, b, h10, h8, h5, h6⟩).elim
    · omega
  · rcases get_snoc h3 with ⟨h9, h10⟩ | ⟨h9, h10⟩
    · subst h8
      exact ⟨h7, a, h10, h9, h5, h6⟩
    · omega
theorem log_snoc_iff {ns : List Int} {l : Int} (h : Log ns) (h0 : 0 ≤ l) (h1 : l < ns.length) (hz : ns.length < 150) : Log (ns ++ [l]) ↔ Allow ns l := by
  constructor
  · intro hL
    apply Classical.byContradiction
    intro hna
    obtain ⟨i, hc⟩ := cross_snoc h.form h0 h1 hna
    exact hL.nc _ _ hc
  · exact fun ha => ⟨form_snoc h.form h0 h1 hz, noCross_snoc h.nc ha⟩
end VB

namespace VB
open PySem PySem.Spec PyProof.Rows L2

/-! ### the set of a list of ints -/
/-- what stands at a new set -/
abbrev nu (w : World) : Obj where
  cls := .type "set"
  dict := none
  data := .set #[] 0 (.fresh 0 0 (!w.params.followText "set-order"))
section
variable {P : Program} {w : World} {A : Around} {E : Value → Shared → Prop} {s : Shared}
/-- s, with the new set behind its objects -/
abbrev aft (w : World) (s : Shared) : Shared := { s with heap := s.heap.push (nu w) }
theorem set_of_list {q : Addr} {its : Array Value} (ns : List Int) {Q : Value → Shared → Prop}
    (hh : A.handled = none) (hl : s.heap.IsList q its) (hit : IntsAre its.toList ns) (hb : ns.length + 1 < scanBound)
    (k : ∀ (g : Heap) (tk c : Nat), SetR w g s.heap.objs.size (fun j => decide (j ∈ ns)) c → c ≤ ns.length →
      (∀ b o, s.heap.get? b = some o → g.get? b = some o) → Q (.ref s.heap.objs.size) { s with heap := g, toks := tk }) :
    wpAny (model P w) A (call (.type "set") [.ref q]) Q E s := by
  have sz : its.size = ns.length := by
    have z := hit.length
    rwa [Array.length_toList] at z
  obtain ⟨c0, tl0, mro⟩ := F.called_set.mro
  have made := F.called_set.made
  have subs := F.called_set.sub
  refine wpAny_call (codeAny_of_tree ?_)
  show wpAny _ _ (callAny (.type "set") _) _ _ _
  refine wpAny_pure ⟨Code.quiet_builtin _ (by decide +kernel), ?_⟩
  refine codeAny_builtin F.entry_type_call ?_
  rw [Around.under_plain
    (weight_type_call_type "set" [.ref q] []) rfl]
  have n1 := F.called_set.notType
  have n2 := F.called_set.canCreate
  have n3 := F.typeCall_set_1 (.ref q)
  repeat (any_goals (first
    | assumption
    | wp_step))
  refine codeAny_mono (code_set_led1 (.ref q) (E := E) (Q₁ := fun v s₁ => v = .ref s.heap.objs.size ∧ s₁ = aft w s) ⟨rfl, rfl⟩) fun r s₁ hr => ?_
  rcases r with e | fl
  · exact hr
  rcases fl with _ | _ | _ | v
  any_goals exact hr.elim
  obtain ⟨rfl, rfl⟩ := hr
  have at1 : (aft w s).heap.get? s.heap.objs.size = some (nu w) := Heap.get?_push_size _ rfl
  have ty1 : (aft w s).TypeIs (.ref s.heap.objs.size) "set" := ⟨_, at1, rfl⟩
  have look := F.called_set.init.lookup
  have bind := F.called_set.init.bind (.ref s.heap.objs.size)
  repeat (any_goals (first
    | assumption
    | wp_step))
  refine codeAny_mono (codeAny_call_builtin (R := wants (fun r s₂ => r = .none ∧ ∃ g tk c, s₂ = { s with heap := g, toks := tk } ∧
      SetR w g s.heap.objs.size (fun j => decide (j ∈ ns)) c ∧ c ≤ ns.length ∧ (∀ b o, s.heap.get? b = some o → g.get? b = some o)) E)
    F.called_set.init.plain F.entry_set_init (check_set_init_1 ty1 ?_)) fun r₂ s₂ h₂ => ?_
  · obtain ⟨ol, at0, cl0, n0, da0⟩ := hl
    obtain ⟨oc, od, oa, os⟩ := ol
    simp only at cl0 da0
    subst cl0 da0
    have at2 : (aft w s).heap.get? q = some { cls := .type "list", dict := od, data := .seq its n0, slots := os } := Heap.get?_push_of_some _ at0
    have d1 := F.sub_list_set
    have d2 := F.sub_list_frozenset
    have d3 : (Value.type "list" == Value.type "dict") = false := by decide
    have li : (aft w s).heap.IsList q its := ⟨_, at2, rfl, n0, rfl⟩
    unfold Builtin.«set.__init__» noKeywords
    unfold Builtin.Frozenset.updateFrom
    generalize hPI : pyIter = PI
    wp_walk
    subst hPI
    refine wpAny_pyIter_list li ?_
    refine wpAny_bind (wpAny_runValue ?_)
    have lt := Heap.lt_size at0
    have h3 : A.in1.in1.in1.handled = none := by simp [hh]
    have bump : (aft w s).heap.objs.size = s.heap.objs.size + 1 := Heap.size_push ..
    have ne1 : q ≠ (aft w s).heap.objs.size := by rw [bump]; exact Nat.ne_of_lt (Nat.lt_succ_of_lt lt)
    have ne2 : s.heap.objs.size ∉ [(aft w s).heap.objs.size, q] := by
      rw [bump]
      intro z
      rcases List.mem_cons.mp z with z | z
      · omega
      · have := List.mem_singleton.mp z
        rw [← this] at lt
        exact Nat.lt_irrefl _ lt
    have vals : ∀ (i : Nat) (v : Value), its[i]? = some v → ∃ j t, ns[i]? = some j ∧ v = .int j t := by
      intro i v hv
      have hi : i < ns.length := sz ▸ (Array.getElem?_eq_some_iff.mp hv).1
      obtain ⟨t, e⟩ := hit.int_at i v (by rw [Array.getElem?_toList]; exact hv)
      refine ⟨ns[i], t, List.getElem?_eq_getElem hi, ?_⟩
      rw [e, List.getD_eq_getElem?_getD, List.getElem?_eq_getElem hi]
      rfl
    refine set_update_ints ((Walks.list h3 _ q ne1 its).toS) s.heap.objs.size ne2 ns sz hb vals
      (its.size - 0) 0 _ (by omega) (Nat.zero_le _) ⟨⟨_, Heap.get?_push_size _ rfl, rfl, rfl⟩, (li.push _)⟩ ?start ?goal
    case start => exact ⟨0, Nat.le_refl 0, setR_new_at (Heap.get?_push_of_some _ at1)⟩
    case goal =>
      intro s' c' mv le' R
      obtain ⟨g, g2, d2, tk, o2⟩ := s'
      have e1 : g2 = s.gens := mv.gens
      have e2 : d2 = s.drawn := mv.drawn
      have e3 : o2 = s.os := mv.os
      subst e1 e2 e3
      show wpAny _ _ _ _ _ _
      refine wpAny_pure ?_
      show wpAny _ _ (ret Value.none) _ _ _
      refine wpAny_pure ⟨rfl, g, tk, c', rfl, R, sz ▸ le', fun b o e => ?_⟩
      have b0 := Heap.lt_size e
      refine mv.heap b o ?_ (Heap.get?_push_of_some _ (Heap.get?_push_of_some _ e))
      intro z
      rcases List.mem_cons.mp z with z | z
      · rw [z] at b0
        exact Nat.lt_irrefl _ b0
      · have z2 := List.mem_singleton.mp z
        rw [bump] at z2
        rw [z2] at b0
        exact absurd b0 (Nat.not_lt.mpr (Nat.le_succ _))
  · rcases r₂ with e | fl
    · exact h₂
    rcases fl with _ | _ | _ | v
    any_goals exact h₂.elim
    obtain ⟨rfl, g, tk, c', rfl, R, le', kp⟩ := h₂
    repeat (any_goals (first
      | assumption
      | wp_step))
    exact k _ _ _ R le' kp
end
section
variable {X : Cx}
def rSetI (w : World) (K : PySem.W.Frag) : List V → Hp → VK → Prop := fun xs H Q => ∃ (a : Addr) (ns : List Int), xs = [.ref a] ∧ SqL K H a (ns.map V.int) ∧ ns.length < 1000 ∧
  ∀ p c, c ≤ ns.length → H p = none → Q (.ref p) (upd H p (SetO w p (fun j => decide (j ∈ ns)) c))
theorem cr_setI {w : World} {K : PySem.W.Frag} (hw : X.w = w) (hK : X.K = K) (hc : X.calm = true) : CallR X (.type "set") (rSetI w K) := by
  subst hw hK
  intro pins s σ H xs us Q I r h
  obtain ⟨a, ns, rfl, hs, h1, q⟩ := h
  rw [Vals.ref1 r]
  obtain ⟨its, rv, pl, hz⟩ := I.list hs
  refine set_of_list ns (I.ok.hd hc) pl.isList (by simpa using ints_of_vals rv) (Nat.lt_trans (Nat.succ_lt_succ h1) (by decide)) fun g tk c R le kp => ?_
  exact ⟨.ref _, upd H s.heap.objs.size (SetO X.w s.heap.objs.size (fun j => decide (j ∈ ns)) c), I.laid (t' := tk) kp (Nat.le_refl _) (setO_new R), rfl, q _ _ le (I.hok.fresh (Nat.le_refl _))⟩
end
end VB
namespace VB
open PySem PySem.Spec PyProof.Rows L2
section
variable {K : PySem.W.Frag} {w : World} {H H0 H' : Hp} {Q : VK} {a p : Addr} {ns : List Int} {M : List Addr} {W : List (Addr × HO)}
theorem w_setI (S : Tr M H0 H W) (h : SqL K H a (ns.map V.int)) (hl : ns.length < 1000)
    (k : ∀ p c G, c ≤ ns.length → Tr M H0 G ((p, SetO w p (fun j => decide (j ∈ ns)) c) :: W) → Q (.ref p) G) : rSetI w K [.ref a] H Q :=
  ⟨a, ns, rfl, h, hl, fun p c hc hp => k p c _ hc (S.new hp)⟩
theorem w_sortS {T : Int → Bool} {n : Nat} (S : Tr M H0 H W) (h : H a = some (SetO w a T n)) (hn : n < 64)
    (k : ∀ (ls : List Int) (p : Addr) (G : Hp), ls.Pairwise (· < ·) → (∀ t, t ∈ ls ↔ T t = true) → ls.length = n → Tr M H0 G ((p, .lst (ls.map V.int)) :: W) → Q (.ref p) G) : rSortedSet w [.ref a] H Q :=
  ⟨a, T, n, rfl, h, hn, fun ls p h1 h2 h3 hp => k ls p _ h1 h2 h3 (S.new hp)⟩
/-! ### dicts from ints to ints -/
def DIO (n : Nat) (f : Int → Option Int) (o : HO) : Prop := ∃ kvs : List (Key × V), o = .dK kvs ∧ kvs.length ≤ n ∧ ∀ i, valV kvs (.inl i) = (f i).map V.int
def fput (f : Int → Option Int) (k v : Int) : Int → Option Int := fun i => if i = k then some v else f i
theorem fput_eq {f : Int → Option Int} {k v : Int} : fput f k v k = some v := if_pos rfl
theorem fput_ne {f : Int → Option Int} {k v i : Int} (h : i ≠ k) : fput f k v i = f i := if_neg h
theorem DIO.le {n m : Nat} {f : Int → Option Int} {o : HO} (d : DIO n f o) (h : n ≤ m) : DIO m f o := by
  obtain ⟨kvs, e, l, v⟩ := d
  exact ⟨kvs, e, by omega, v⟩
theorem DIO.get {n : Nat} {f : Int → Option Int} {o : HO} (d : DIO n f o) (h : H a = some o) (i : Int) : DGet H a (.int i) ((f i).map V.int) := by
  obtain ⟨kvs, rfl, l, v⟩ := d
  rw [← v i]
  exact DGet.k (k := .inl i) h
theorem putK_len (kvs : List (Key × V)) (k : Key) (v : V) : (putK kvs k v).length ≤ kvs.length + 1 := by
  unfold putK
  split
  · rw [List.length_map]; omega
  · simp
theorem w_dput {n m : Nat} {f : Int → Option Int} {o : HO} {k v : Int} {QH : Hp → Prop} (S : Tr M H0 H W) (h : W[m]? = some (p, o)) (d : DIO n f o) (hn : n < 100000)
    (q : ∀ o' G, DIO (n + 1) (fput f k v) o' → Tr M H0 G (W.set m (p, o')) → QH G) : rSetD (.ref p) (.int k) (.int v) H QH := by
  have hp := S.get m h
  obtain ⟨kvs, rfl, l, hv⟩ := d
  refine ⟨p, _, rfl, DPut.k (k := .inl k) hp (szl (by omega)), q _ _ ⟨_, rfl, ?_, fun i => ?_⟩ (S.putN m h)⟩
  · have := putK_len kvs (.inl k) (.int v); omega
  · rw [valV_put]
    by_cases e : i = k
    · subst e; rw [fput_eq, if_pos rfl]; rfl
    · rw [fput_ne e, if_neg (fun z => e (Sum.inl.inj z)), hv]
theorem dio_one (k v : Int) : DIO 1 (fput (fun _ => none) k v) (.dK (mergeK [] [((Sum.inl k : Key), V.int v)])) := by
  refine ⟨_, rfl, length_mergeK [((Sum.inl k : Key), V.int v)] [], fun i => ?_⟩
  show valV (putK ([] : List (Key × V)) (.inl k) (.int v)) (.inl i) = _
  rw [valV_put]
  by_cases e : i = k
  · subst e; rw [fput_eq, if_pos rfl]; rfl
  · rw [fput_ne e, if_neg (fun z => e (Sum.inl.inj z))]; rfl
end
/-! ### the shortest chain -/
inductive FC (ns : List Int) (e : Int) : Int → List Int → Prop
  | one : FC ns e e [e]
  | link {s : Int} {cs : List Int} (h : e < s) (hl : e ≤ at0 ns s) (t : FC ns e (at0 ns s) cs) : FC ns e s (s :: cs)
  | step {s : Int} {cs : List Int} (h : e < s) (hl : at0 ns s < e) (t : FC ns e (s - 1) cs) : FC ns e s (s :: cs)
section
variable {ns : List Int} {e s : Int} {cs ds : List Int}
theorem FC.uniq (h : FC ns e s cs) : FC ns e s ds → cs = ds := by
  induction h generalizing ds with
  | one => intro g; cases g with | one => rfl | link h _ _ => omega | step h _ _ => omega
  | link h hl t ih => intro g; cases g with | one => omega | link _ _ g => rw [ih g] | step _ h2 _ => omega
  | step h hl t ih => intro g; cases g with | one => omega | link _ h2 _ => omega | step _ _ g => rw [ih g]
theorem FC.head (h : FC ns e s cs) : ∃ r, cs = s :: r := by cases h <;> exact ⟨_, rfl⟩
theorem at0_lt (hF : Form ns) {i : Int} (h : 0 < i) (h2 : i < ns.length) : 0 ≤ at0 ns i ∧ at0 ns i < i := by
  obtain ⟨n, rfl⟩ : ∃ n : Nat, i = (n : Int) := ⟨i.toNat, by omega⟩
  have hn : n < ns.length := by omega
  rw [at0_get hn]
  exact ⟨(hF.nat hn).1, hF.lt hn (by omega)⟩
theorem FC.mem_le (hF : Form ns) (h0 : 0 ≤ e) (h : FC ns e s cs) (hs : s < ns.length) : ∀ c ∈ cs, e ≤ c ∧ c ≤ s := by
  induction h with
  | one => intro c hc; have : c = e := by simpa using hc
           omega
  | @link s cs h hl t ih =>
    intro c hc
    have := at0_lt hF (i := s) (by omega) hs
    rcases List.mem_cons.mp hc with rfl | hc
    · omega
    · have := ih (by omega) c hc; omega
  | @step s cs h hl t ih =>
    intro c hc
    rcases List.mem_cons.mp hc with rfl | hc
    · omega
    · have := ih (by omega) c hc; omega
theorem FC.end_mem (h : FC ns e s cs) : e ∈ cs := by
  induction h with
  | one => simp
  | link h hl t ih => exact List.mem_cons_of_mem _ ih
  | step h hl t ih => exact List.mem_cons_of_mem _ ih
theorem FC.last (h : FC ns e s cs) : cs.getLast? = some e := by
  induction h with
  | one => rfl
  | link h hl t ih => obtain ⟨r, rfl⟩ := t.head; simpa using ih
  | step h hl t ih => obtain ⟨r, rfl⟩ := t.head; simpa using ih
theorem FC.desc (hF : Form ns) (h0 : 0 ≤ e) (h : FC ns e s cs) (hs : s < ns.length) : cs.Pairwise (· > ·) := by
  induction h with
  | one => simp
  | @link s cs h hl t ih =>
    have := at0_lt hF (i := s) (by omega) hs
    refine List.pairwise_cons.mpr ⟨fun c hc => ?_, ih (by omega)⟩
    have := t.mem_le hF h0 (by omega) c hc
    omega
  | @step s cs h hl t ih =>
    refine List.pairwise_cons.mpr ⟨fun c hc => ?_, ih (by omega)⟩
    have := t.mem_le hF h0 (by omega) c hc
    omega
theorem FC.len (hF : Form ns) (h0 : 0 ≤ e) (h : FC ns e s cs) (hs : s < ns.length) : (cs.length : Int) ≤ s - e + 1 := by
  induction h with
  | one => simp
  | @link s cs h hl t ih =>
    have := at0_lt hF (i := s) (by omega) hs
    have := ih (by omega)
    simp; omega
  | @step s cs h hl t ih =>
    have := ih (by omega)
    simp; omega
/-- no chain goes past an entry of the shortest one -/
theorem FC.pass (hL : Log ns) (h0 : 0 ≤ e) (h : FC ns e s cs) (hs : s < ns.length) : ∀ x c, c ∈ cs → c < x → x ≤ s → e ≤ at0 ns x → c ≤ at0 ns x := by
  induction h with
  | one => intro x c hc h1 h2 h3; have : c = e := by simpa using hc
           omega
  | @link s cs h hl t ih =>
    intro x c hc h1 h2 h3
    have hs2 := at0_lt hL.form (i := s) (by omega) hs
    rcases List.mem_cons.mp hc with rfl | hc
    · omega
    have hcb := t.mem_le hL.form h0 (by omega) c hc
    by_cases q : x ≤ at0 ns s
    · exact ih (by omega) x c hc h1 q h3
    · by_cases q2 : x = s
      · subst q2; omega
      · apply Classical.byContradiction
        intro hn
        refine hL.nc x.toNat s.toNat ⟨by omega, by omega, at0 ns x, at0 ns s, at0_get? (by omega) (by omega), at0_get? (by omega) (by omega), by omega, by omega⟩
  | @step s cs h hl t ih =>
    intro x c hc h1 h2 h3
    rcases List.mem_cons.mp hc with rfl | hc
    · omega
    by_cases q2 : x = s
    · subst q2; omega
    · exact ih (by omega) x c hc h1 (by omega) h3
/-- the entry behind one -/
theorem FC.succ (hF : Form ns) (h0 : 0 ≤ e) (h : FC ns e s cs) (hs : s < ns.length) : ∀ x c, x ∈ cs → c ∈ cs → c < x → (∀ d ∈ cs, c < d → x ≤ d) → c = at0 ns x ∨ c = x - 1 := by
  induction h with
  | one => intro x c hx hc h1 _; have : x = e := by simpa using hx
           have : c = e := by simpa using hc
           omega
  | @link s cs h hl t ih =>
    intro x c hx hc h1 h2
    have hs2 := at0_lt hF (i := s) (by omega) hs
    have hb := t.mem_le hF h0 (by omega)
    rcases List.mem_cons.mp hc with rfl | hc2
    · rcases List.mem_cons.mp hx with rfl | hx
      · omega
      · have := hb x hx; omega
    rcases List.mem_cons.mp hx with rfl | hx
    · obtain ⟨r, hr⟩ := t.head
      have h3 := h2 (at0 ns x) (List.mem_cons_of_mem _ (by rw [hr]; simp))
      have := hb c hc2
      left; omega
    · exact ih (by omega) x c hx hc2 h1 fun d hd => h2 d (List.mem_cons_of_mem _ hd)
  | @step s cs h hl t ih =>
    intro x c hx hc h1 h2
    have hb := t.mem_le hF h0 (by omega)
    rcases List.mem_cons.mp hc with rfl | hc2
    · rcases List.mem_cons.mp hx with rfl | hx
      · omega
      · have := hb x hx; omega
    rcases List.mem_cons.mp hx with rfl | hx
    · obtain ⟨r, hr⟩ := t.head
      have h3 := h2 (x - 1) (List.mem_cons_of_mem _ (by rw [hr]; simp))
      have := hb c hc2
      right; omega
    · exact ih (by omega) x c hx hc2 h1 fun d hd => h2 d (List.mem_cons_of_mem _ hd)
/-- how many entries of the chain are greater -/
def rank (cs : List Int) (k : Int) : Nat := cs.countP fun c => decide (k < c)
theorem FC.rank_end (hF : Form ns) (h0 : 0 ≤ e) (h : FC ns e s cs) : rank cs e + 1 = cs.length := by
  induction h with
  | one => simp [rank]
  | link h hl t ih => unfold rank at *; rw [List.countP_cons_of_pos (by simpa using h), List.length_cons, ← ih]
  | step h hl t ih => unfold rank at *; rw [List.countP_cons_of_pos (by simpa using h), List.length_cons, ← ih]
theorem rank_step {x k : Int} (nd : cs.Pairwise (· > ·)) (h : ∀ c ∈ cs, c < x → c ≤ k) : rank cs k ≤ rank cs x + 1 := by
  unfold rank
  induction cs with
  | nil => simp
  | cons c cs ih =>
    obtain ⟨h1, h2⟩ := List.pairwise_cons.mp nd
    have ih := ih h2 fun d hd => h d (List.mem_cons_of_mem _ hd)
    by_cases q : x < c
    · rw [List.countP_cons_of_pos (p := fun c => decide (x < c)) (by simpa using q)]
      have := List.countP_cons (p := fun c => decide (k < c)) (a := c) (l := cs)
      rw [this]
      split <;> omega
    · rw [List.countP_cons_of_neg (p := fun c => decide (x < c)) (by simpa using q)]
      by_cases q2 : c = x
      · subst q2
        have z : cs.countP (fun d => decide (k < d)) = 0 := by
          rw [List.countP_eq_zero]
          intro d hd
          have h3 := h1 d hd
          have h4 := h d (List.mem_cons_of_mem _ hd) h3
          simpa using h4
        rw [List.countP_cons, z]
        split <;> omega
      · have h3 := h c (List.mem_cons_self ..) (by omega)
        rw [List.countP_cons_of_neg (p := fun c => decide (k < c)) (by simpa using h3)]
        exact ih
theorem rank_mem {x k : Int} (hx : x ∈ cs) (h : k < x) : rank cs x + 1 ≤ rank cs k := by
  unfold rank
  induction cs with
  | nil => simp at hx
  | cons c cs ih =>
    have mono : cs.countP (fun d => decide (x < d)) ≤ cs.countP (fun d => decide (k < d)) := List.countP_mono_left fun d _ hd => by
      have : x < d := by simpa using hd
      simpa using (show k < d by omega)
    rcases List.mem_cons.mp hx with rfl | hx
    · rw [List.countP_cons_of_neg (p := fun c => decide (x < c)) (by simp), List.countP_cons_of_pos (p := fun c => decide (k < c)) (by simpa using h)]
      omega
    · have ih := ih hx
      rw [List.countP_cons, List.countP_cons]
      by_cases q : x < c
      · rw [if_pos (by simpa using q), if_pos (by simpa using (show k < c by omega))]; omega
      · rw [if_neg (by simpa using q)]
        split <;> omega
theorem rank_le (k : Int) : rank cs k ≤ cs.length := List.countP_le_length
theorem rank_top {k : Int} (h : ∀ c ∈ cs, c ≤ k) : rank cs k = 0 := by
  unfold rank
  rw [List.countP_eq_zero]
  intro d hd
  simpa using h d hd
end
end VB
namespace VB
open PySem PySem.Spec PyProof.Rows L2
section
variable {K : PySem.W.Frag} {σ : L2.St} {H H0 H' : Hp} {Q : VK} {a p : Addr} {M : List Addr} {W : List (Addr × HO)} {ty td tx tk tv : TE} {n : Nat} {f : Int → Option Int} {o : HO} {i z v k : Int}
/-- the ends of the readings of dicts -/
def DinE (Q : VK) (y x : V) (H : Hp) : Prop := ∃ a o, x = .ref a ∧ DGet H a y o ∧ Q (.bl o.isSome) H
def DgetE (Q : VK) (x y : V) (H : Hp) : Prop := ∃ a v, x = .ref a ∧ DGet H a y (some v) ∧ Q v H
def Dget2E (Q : VK) (a : Addr) (y z : V) (H : Hp) : Prop := ∃ o, DGet H a y o ∧ Q (o.getD z) H
theorem w_din (q : ty σ H fun y H1 => td σ H1 fun x H2 => DinE Q y x H2) : tDIn ty td σ H Q := q
theorem w_dget (q : td σ H fun x H1 => ty σ H1 fun y H2 => DgetE Q x y H2) : tDGet td ty σ H Q := q
theorem w_dget2 (q : td σ H fun x H1 => ∃ a, x = .ref a ∧ IsD H1 a ∧ ty σ H1 fun y H2 => tx σ H2 fun z H3 => Dget2E Q a y z H3) : tDGet2 td ty tx σ H Q := q
/-- the end of a display of one pair -/
def DispE (Q : VK) (p : Addr) (x y : V) (H2 : Hp) : Prop := H2 p = some (.dK []) ∧ ∃ kvs : List (Key × V), [(x, y)] = kvs.map (fun kv => (kV kv.1, kv.2)) ∧ kvs.length ≤ 15 ∧ Q (.ref p) (upd H2 p (.dK (mergeK [] kvs)))
theorem w_disp1 (q : ∀ p, H p = none → tk σ (upd H p (.dK [])) fun x H1 => tv σ H1 fun y H2 => DispE Q p x y H2) : tDisp [(tk, tv)] σ H Q := q
theorem w_dispE (S : Tr M H0 H ((p, .dK []) :: W)) (q : ∀ o G, DIO 1 (fput (fun _ => none) k v) o → Tr M H0 G ((p, o) :: W) → Q (.ref p) G) : DispE Q p (.int k) (.int v) H :=
  ⟨S.get 0 rfl, [(Sum.inl k, .int v)], rfl, by simp, q _ _ (dio_one k v) (S.putN 0 rfl)⟩
theorem w_dinI (d : DIO n f o) (h : H a = some o) (q : Q (.bl (f i).isSome) H) : DinE Q (.int i) (.ref a) H :=
  ⟨a, _, rfl, d.get h i, by rw [Option.isSome_map]; exact q⟩
theorem w_dgetI (d : DIO n f o) (h : H a = some o) (hf : f i = some v) (q : Q (.int v) H) : DgetE Q (.ref a) (.int i) H :=
  ⟨a, .int v, rfl, by have := d.get h i; rwa [hf] at this, q⟩
theorem w_dget2I (d : DIO n f o) (h : H a = some o) (q : Q (.int ((f i).getD z)) H) : Dget2E Q a (.int i) (.int z) H :=
  ⟨_, d.get h i, by cases hf : f i with | none => rw [hf] at q; exact q | some v => rw [hf] at q; exact q⟩
theorem DIO.isD (d : DIO n f o) (h : H a = some o) : IsD H a := by
  obtain ⟨kvs, rfl, _, _⟩ := d
  exact .inl ⟨kvs, .inl h⟩
theorem w_rng3 {R : It → Hp → Prop} {ta : TA} (q : ta σ H fun vs H1 => ∃ (i j c : Int) (n : Nat), vs = [.int i, .int j, .int c] ∧ RgC i j c n ∧ R (Itc i c n) H1) : iRng3 ta σ H R := q
end
/-! ### the table of least lengths that the laws make -/
def Blk (cs : List Int) (e : Int) (u : V) : Prop := ∃ w, u = .int w ∧ w ∈ cs ∧ e < w
structure LI (cs : List Int) (s e : Int) (u : V) (p : Int) (f : Int → Option Int) : Prop where
  rng : ∀ k v, f k = some v → e ≤ k ∧ k ≤ s ∧ (rank cs k : Int) ≤ v
  free : ¬ Blk cs e u → ∀ c ∈ cs, (∀ d ∈ cs, c < d → p < d) → f c = some (rank cs c : Int)
  blk : ∀ w, u = .int w → w ∈ cs → e < w → ∀ k v, f k = some v → w ≤ k
structure LJ (cs ls : List Int) (s e x v : Int) (u : V) (f : Int → Option Int) (j : Nat) (g : Int → Option Int) : Prop where
  same : g x = some v
  rng : ∀ k v, g k = some v → e ≤ k ∧ k ≤ s ∧ (rank cs k : Int) ≤ v
  keep : ∀ c, f c = some (rank cs c : Int) → g c = some (rank cs c : Int)
  new : ∀ i, i < j → ∀ l, ls[i]? = some l → (rank cs l : Int) = v + 1 → g l = some (v + 1)
  blk : ∀ w, u = .int w → w ∈ cs → e < w → ∀ k v, g k = some v → w ≤ k
section
variable {ns cs ls : List Int} {s e x v l p : Int} {u : V} {f g : Int → Option Int} {j : Nat}
theorem LI.start (hF : Form ns) (h0 : 0 ≤ e) (hc : FC ns e s cs) (hs : s < ns.length) (hes : e ≤ s) : LI cs s e u s (fput (fun _ => none) s 0) := by
  have hb := hc.mem_le hF h0 hs
  have key : ∀ k v, fput (fun _ => none) s 0 k = some v → k = s ∧ v = 0 := by
    intro k v h
    by_cases q : k = s
    · subst q; rw [fput_eq] at h; exact ⟨rfl, (Option.some.inj h).symm⟩
    · rw [fput_ne q] at h; cases h
  have hr : rank cs s = 0 := rank_top fun c h => (hb c h).2
  refine ⟨fun k v h => ?_, fun _ c hcm hd => ?_, fun w _ hw _ k v h => ?_⟩
  · obtain ⟨rfl, rfl⟩ := key k v h
    rw [hr]
    omega
  · obtain ⟨r, hr2⟩ := hc.head
    have hsm : s ∈ cs := by rw [hr2]; simp
    have e1 : c = s := by
      have h1 := (hb c hcm).2
      by_cases q : c < s
      · have := hd s hsm q; omega
      · omega
    subst e1
    rw [fput_eq, hr]
    rfl
  · obtain ⟨rfl, _⟩ := key k v h
    exact (hb w hw).2
theorem LI.skip (hx : e < x) (h : LI cs s e u x f) (hn : f x = none ∨ u = .int x) : LI cs s e u (x - 1) f := by
  refine ⟨h.rng, fun hb c hc hd => h.free hb c hc fun d hdm hcd => ?_, h.blk⟩
  have h1 := hd d hdm hcd
  by_cases q : d = x
  · subst q
    exfalso
    rcases hn with hn | hn
    · have := h.free hb d hdm fun d' _ h => h
      rw [hn] at this; cases this
    · exact hb ⟨d, hn, hdm, hx⟩
  · omega
theorem LI.begin (h : LI cs s e u x f) (hf : f x = some v) : LJ cs ls s e x v u f 0 f :=
  ⟨hf, h.rng, fun _ h => h, fun i hi => by omega, h.blk⟩
theorem LJ.next (hL : Log ns) (h0 : 0 ≤ e) (hc : FC ns e s cs) (hs : s < ns.length) (hx : e < x) (hxs : x ≤ s) (hu : u ≠ .int x) (h : LJ cs ls s e x v u f j g) (hl : ls[j]? = some l)
    (hm : (l = at0 ns x ∨ l = x - 1) ∧ e ≤ l) : LJ cs ls s e x v u f (j + 1) (fput g l (min ((g l).getD (10 ^ 6)) (v + 1))) := by
  have hx0 := at0_lt hL.form (i := x) (by omega) (by omega)
  have hlx : l < x := by rcases hm.1 with q | q <;> omega
  have hpass : ∀ c ∈ cs, c < x → c ≤ l := by
    intro c hcm hcx
    rcases hm.1 with q | q
    · have := hc.pass hL h0 hs x c hcm hcx hxs (by omega); omega
    · omega
  have hv := (h.rng x v h.same).2.2
  have hr := rank_step (x := x) (k := l) (hc.desc hL.form h0 hs) hpass
  have hlen := hc.len hL.form h0 hs
  have hz := hL.form.2.1
  have hrl := rank_le (cs := cs) l
  have h6 : (10 : Int) ^ 6 = 1000000 := by decide
  have hmin : (rank cs l : Int) ≤ min ((g l).getD (10 ^ 6)) (v + 1) := by
    cases hg : g l with
    | none => simp only [Option.getD_none]; omega
    | some y => have := (h.rng l y hg).2.2; simp only [Option.getD_some]; omega
  refine ⟨?_, fun k y hk => ?_, fun c hcf => ?_, fun i hi l' hl' hr' => ?_, fun w hw hwm hwe k y hk => ?_⟩
  · rw [fput_ne (by omega)]; exact h.same
  · by_cases q : k = l
    · subst q
      rw [fput_eq] at hk
      have := Option.some.inj hk
      omega
    · rw [fput_ne q] at hk
      exact h.rng k y hk
  · have hk := h.keep c hcf
    by_cases q : c = l
    · subst q
      rw [fput_eq, hk, Option.getD_some]
      congr 1
      omega
    · rw [fput_ne q]; exact hk
  · by_cases q : l' = l
    · subst q
      rw [fput_eq]
      congr 1
      cases hg : g l' with
      | none => simp only [Option.getD_none]; omega
      | some y => have := (h.rng l' y hg).2.2; simp only [Option.getD_some]; omega
    · have hij : i < j := by
        by_cases q2 : i = j
        · subst q2; rw [hl] at hl'; exact (q (Option.some.inj hl').symm).elim
        · omega
      rw [fput_ne q]
      exact h.new i hij l' hl' hr'
  · by_cases q : k = l
    · subst q
      have h1 := h.blk w hw hwm hwe x v h.same
      have h2 : w ≠ x := fun z => hu (by rw [hw, z])
      exact hpass w hwm (by omega)
    · rw [fput_ne q] at hk
      exact h.blk w hw hwm hwe k y hk
theorem LJ.fin (hL : Log ns) (h0 : 0 ≤ e) (hc : FC ns e s cs) (hs : s < ns.length) (hI : LI cs s e u x f) (h : LJ cs ls s e x v u f ls.length g) (hf : f x = some v)
    (hm : ∀ t, t ∈ ls ↔ (t = at0 ns x ∨ t = x - 1) ∧ e ≤ t) : LI cs s e u (x - 1) g := by
  refine ⟨h.rng, fun hb c hcm hd => ?_, h.blk⟩
  by_cases q : x ∈ cs ∧ c < x
  · obtain ⟨hxm, hcx⟩ := q
    have hd' : ∀ d ∈ cs, c < d → x ≤ d := fun d hdm h => by have := hd d hdm h; omega
    have hfx := hI.free hb x hxm fun d _ h => h
    rw [hf] at hfx
    have hv : v = rank cs x := Option.some.inj hfx
    have hsu := hc.succ hL.form h0 hs x c hxm hcm hcx hd'
    have hce := (hc.mem_le hL.form h0 hs c hcm).1
    obtain ⟨i, hi, hic⟩ := List.mem_iff_getElem.mp ((hm c).mpr ⟨hsu, hce⟩)
    have r1 := rank_step (x := x) (k := c) (hc.desc hL.form h0 hs) fun d hdm hdx => by
      by_cases q : c < d
      · have := hd' d hdm q; omega
      · omega
    have r2 := rank_mem (x := x) (k := c) hxm hcx
    have := h.new i hi c (by rw [List.getElem?_eq_getElem hi, hic]) (by omega)
    rw [this]
    congr 1
    omega
  · refine h.keep c (hI.free hb c hcm fun d hdm hcd => ?_)
    have h1 := hd d hdm hcd
    by_cases q2 : d = x
    · subst q2
      exact (q ⟨hdm, hcd⟩).elim
    · omega
theorem LI.ends (hF : Form ns) (h0 : 0 ≤ e) (hc : FC ns e s cs) (h : LI cs s e u e f) : (Blk cs e u → f e = none) ∧ (¬ Blk cs e u → f e = some ((cs.length : Int) - 1)) := by
  constructor
  · rintro ⟨w, hw, hwm, hwe⟩
    cases hf : f e with
    | none => rfl
    | some v => have := h.blk w hw hwm hwe e v hf; omega
  · intro hb
    have h1 := h.free hb e hc.end_mem fun d _ h => h
    have h2 := hc.rank_end hF h0
    rw [h1]
    congr 1
    omega
end
end VB
namespace VB
open PySem PySem.Spec PyProof.Rows L2
theorem cut_both {xs : List V} {l k : Int} (h : 0 ≤ l) (h2 : 0 ≤ k) : cutV xs (some l) (some k) = (xs.take k.toNat).drop l.toNat := by
  unfold cutV
  rw [sIx_nn h, sIx_nn h2, List.drop_take]
  by_cases q : l.toNat ≤ xs.length
  · rw [Nat.min_eq_left q]
    by_cases q2 : k.toNat ≤ xs.length
    · rw [Nat.min_eq_left q2]
    · rw [Nat.min_eq_right (by omega), List.take_of_length_le (by simp), List.take_of_length_le (by simp; omega)]
  · rw [List.drop_of_length_le (by omega), List.drop_of_length_le (by omega)]
    simp
theorem cut_both_int {ns : List Int} {l k : Int} (h : 0 ≤ l) (h2 : 0 ≤ k) : cutV (ns.map V.int) (some l) (some k) = ((ns.take k.toNat).drop l.toNat).map V.int := by
  rw [cut_both h h2, List.map_drop, List.map_take]
theorem cut_last {xs : List V} {v : V} : cutV (xs ++ [v]) none (some (-1)) = xs := by
  unfold cutV
  have e : HT.sIx (xs ++ [v]).length (xs ++ [v]).length (some (-1)) = xs.length := by
    show (if (-1 : Int) < 0 then ((-1 : Int) + ((xs ++ [v]).length : Int)).toNat else min (-1 : Int).toNat (xs ++ [v]).length) = xs.length
    rw [if_pos (by decide)]
    simp
    omega
  rw [e, HT.sIx_none, List.drop_zero, Nat.sub_zero, List.take_left']
  rfl
section
variable {ns cs : List Int} {e s : Int}
theorem FC.pair (hF : Form ns) (h0 : 0 ≤ e) (hc : FC ns e s cs) (hs : s < ns.length) {i : Nat} {x c : Int} (h1 : cs[i]? = some x) (h2 : cs[i + 1]? = some c) :
    ((c = at0 ns x ∨ c = x - 1) ∧ e ≤ c) ∧ c < x ∧ x ≤ s := by
  obtain ⟨hi, rfl⟩ := List.getElem?_eq_some_iff.mp h1
  obtain ⟨hj, rfl⟩ := List.getElem?_eq_some_iff.mp h2
  have hd := List.pairwise_iff_getElem.mp (hc.desc hF h0 hs)
  have hlt := hd i (i + 1) hi hj (by omega)
  have m1 : cs[i] ∈ cs := List.getElem_mem hi
  have m2 : cs[i + 1] ∈ cs := List.getElem_mem hj
  refine ⟨⟨hc.succ hF h0 hs _ _ m1 m2 hlt fun d hdm hcd => ?_, (hc.mem_le hF h0 hs _ m2).1⟩, hlt, (hc.mem_le hF h0 hs _ m1).2⟩
  obtain ⟨k, hk, rfl⟩ := List.mem_iff_getElem.mp hdm
  by_cases q : k = i
  · subst q; omega
  · by_cases q2 : k < i
    · have := hd k i hk hi q2; omega
    · by_cases q3 : k = i + 1
      · subst q3; omega
      · have := hd (i + 1) k hj hk (by omega); omega
theorem FC.inner (hF : Form ns) (h0 : 0 ≤ e) (hc : FC ns e s cs) (hs : s < ns.length) {y : Int} (hy : y ∈ cs.take (cs.length - 1)) : y ∈ cs ∧ e < y := by
  have hm := List.mem_of_mem_take hy
  refine ⟨hm, ?_⟩
  have h1 := (hc.mem_le hF h0 hs y hm).1
  by_cases q : y = e
  · exfalso
    subst q
    obtain ⟨i, hi, e1⟩ := List.mem_iff_getElem.mp hy
    rw [List.length_take] at hi
    rw [List.getElem_take] at e1
    have hl := hc.last
    rw [List.getLast?_eq_getElem?, List.getElem?_eq_getElem (by omega)] at hl
    have hd := List.pairwise_iff_getElem.mp (hc.desc hF h0 hs) i (cs.length - 1) (by omega) (by omega) (by omega)
    rw [e1, Option.some.inj hl] at hd
    omega
  · omega
end
theorem log_step {ns : List Int} {m : Int} (h : Log ns) (hm : m = ns.length) : Log (ns.set (m - 1).toNat (max 0 (m - 2))) := by
  subst hm
  have h1 := h.form.1
  have h2 := h.form.2.1
  have key : ∀ i a, (ns.set ((ns.length : Int) - 1).toNat (max 0 ((ns.length : Int) - 2)))[i]? = some a → (i < ns.length ∧ ((i + 1 ≠ ns.length ∧ ns[i]? = some a) ∨ (i + 1 = ns.length ∧ a = max 0 ((ns.length : Int) - 2)))) := by
    intro i a ha
    have hi := (List.getElem?_eq_some_iff.mp ha).1
    rw [List.length_set] at hi
    refine ⟨hi, ?_⟩
    by_cases q : i + 1 = ns.length
    · right
      have e : ((ns.length : Int) - 1).toNat = i := by omega
      rw [e, List.getElem?_set_self (by omega)] at ha
      exact ⟨q, (Option.some.inj ha).symm⟩
    · left
      rw [List.getElem?_set_ne (by omega)] at ha
      exact ⟨q, ha⟩
  refine ⟨⟨by rw [List.length_set]; exact h1, by rw [List.length_set]; exact h2, fun i hi => ?_⟩, ?_⟩
  · rcases key i _ (List.getElem?_eq_getElem hi) with ⟨hl, ⟨q, hq⟩ | ⟨q, hq⟩⟩
    · obtain ⟨h3, h4⟩ := List.getElem?_eq_some_iff.mp hq
      rw [← h4]
      exact h.form.2.2 i h3
    · rw [hq]; omega
  · rintro i j ⟨hi, hij, a, b, ha, hb, hab, hbi⟩
    rcases key i a ha with ⟨hl, ⟨q, hq⟩ | ⟨q, hq⟩⟩
    · rcases key j b hb with ⟨hl2, ⟨q2, hq2⟩ | ⟨q2, hq2⟩⟩
      · exact h.nc i j ⟨hi, hij, a, b, hq, hq2, hab, hbi⟩
      · omega
    · rcases key j b hb with ⟨hl2, _⟩
      omega
end VB
namespace VB
open PySem PySem.Spec PyProof.Rows L2
/-! ### list(range(..)) -/
def irg (a b : Int) : List Int := (List.range (b - a).toNat).map fun i => a + (i : Nat)
theorem irg_V (a b : Int) : rgV a b = (irg a b).map V.int := by unfold rgV irg; rw [List.map_map]; rfl
theorem irg_length (a b : Int) : (irg a b).length = (b - a).toNat := by unfold irg; rw [List.length_map, List.length_range]
theorem irg_mem {a b i : Int} : i ∈ irg a b ↔ a ≤ i ∧ i < b := by
  unfold irg
  rw [List.mem_map]
  constructor
  · rintro ⟨n, hn, rfl⟩
    have := List.mem_range.mp hn
    omega
  · rintro ⟨h1, h2⟩
    exact ⟨(i - a).toNat, List.mem_range.mpr (by omega), by omega⟩
section
variable {K : PySem.W.Frag} {σ : L2.St} {H H0 : Hp} {Q : VK} {M : List Addr} {W : List (Addr × HO)} {ta tb : TE} {a b : Int} {p : Addr} {xs : List V}
def LRgE (Q : VK) (a b : Int) (H : Hp) : Prop := RgOk a b ∧ ∀ q, H q = none → Q (.ref q) (upd H q (.lst (rgV a b)))
theorem w_listRg1 (q : ta σ H fun x H1 => ∃ n, x = .int n ∧ LRgE Q 0 n H1) : tLstRg (tRg1 ta) σ H Q := q
theorem w_listRg2 (q : ta σ H fun x H1 => tb σ H1 fun y H2 => ∃ i j, x = .int i ∧ y = .int j ∧ LRgE Q i j H2) : tLstRg (tRg2 ta tb) σ H Q := q
theorem w_listRgE (S : Tr M H0 H W) (h0 : 0 ≤ a) (h1 : b ≤ 16777216) (h2 : a ≤ 16777216) (h3 : 0 ≤ b) (k : ∀ p G, Tr M H0 G ((p, .lst ((irg a b).map V.int)) :: W) → Q (.ref p) G) : LRgE Q a b H :=
  ⟨RgOk.of_le h0 h1 h2 h3, fun q hq => by rw [irg_V]; exact k q _ (S.new hq)⟩
theorem w_clear (S : Tr M H0 H W) (m : Nat) (h : W[m]? = some (p, .lst xs)) (k : ∀ H', Tr M H0 H' (W.set m (p, .lst [])) → Q .non H') : rClear (.ref p) [] H Q :=
  ⟨p, xs, rfl, rfl, S.get m h, k _ (S.putN m h)⟩
end
end VB
namespace VB
open PySem PySem.Spec PyProof.Rows L2
theorem FC.ex {ns : List Int} {e : Int} (hF : Form ns) (h0 : 0 ≤ e) : ∀ (n : Nat) (s : Int), s = e + n → s < ns.length → ∃ cs, FC ns e s cs := by
  intro n
  induction n using Nat.strongRecOn with
  | ind n ih =>
    intro s hn hs
    by_cases q : e < s
    · have hb := at0_lt hF (i := s) (by omega) hs
      by_cases q2 : e ≤ at0 ns s
      · obtain ⟨cs, hc⟩ := ih (at0 ns s - e).toNat (by omega) (at0 ns s) (by omega) (by omega)
        exact ⟨_, .link q q2 hc⟩
      · obtain ⟨cs, hc⟩ := ih (s - 1 - e).toNat (by omega) (s - 1) (by omega) (by omega)
        exact ⟨_, .step q (by omega) hc⟩
    · have e1 : s = e := by omega
      subst e1
      exact ⟨_, .one⟩
theorem FC.ex' {ns : List Int} {e s : Int} (hF : Form ns) (h0 : 0 ≤ e) (h1 : e ≤ s) (h2 : s < ns.length) : ∃ cs, FC ns e s cs := FC.ex hF h0 (s - e).toNat s (by omega) h2
end VB

namespace VB
open PySem PySem.Spec PyProof.Rows L2
/-! ### how many chains there are -/
/-- chains from x to e -/
def cn (ns : List Int) (e : Int) (x : Int) : Int :=
  if h : e < x then cn ns e (x - 1) + (if h2 : at0 ns x < x - 1 ∧ e ≤ at0 ns x then cn ns e (at0 ns x) else 0) else 1
termination_by (x - e).toNat
decreasing_by all_goals omega
theorem cn_end (ns : List Int) (e : Int) : cn ns e e = 1 := by rw [cn, dif_neg (by omega)]
theorem cn_link {ns : List Int} {e x : Int} (h : e < x) (h2 : at0 ns x < x - 1) (h3 : e ≤ at0 ns x) : cn ns e x = cn ns e (x - 1) + cn ns e (at0 ns x) := by
  rw [cn, dif_pos h, dif_pos ⟨h2, h3⟩]
theorem cn_step {ns : List Int} {e x : Int} (h : e < x) (h2 : ¬ (at0 ns x < x - 1 ∧ e ≤ at0 ns x)) : cn ns e x = cn ns e (x - 1) := by
  rw [cn, dif_pos h, dif_neg h2, Int.add_zero]
theorem cn_pos (ns : List Int) (e : Int) : ∀ (n : Nat) (x : Int), (x - e).toNat = n → 1 ≤ cn ns e x := by
  intro n
  induction n using Nat.strongRecOn with
  | ind n ih =>
    intro x hx
    by_cases h : e < x
    · have h1 := ih (x - 1 - e).toNat (by omega) (x - 1) rfl
      by_cases h2 : at0 ns x < x - 1 ∧ e ≤ at0 ns x
      · have h3 := ih (at0 ns x - e).toNat (by omega) (at0 ns x) rfl
        rw [cn_link h h2.1 h2.2]
        omega
      · rw [cn_step h h2]; exact h1
    · rw [cn, dif_neg h]; omega
theorem cn_pos' (ns : List Int) (e x : Int) : 1 ≤ cn ns e x := cn_pos ns e _ x rfl
/-- the table of counts as far as p -/
def CT (ns : List Int) (e p : Int) (f : Int → Option Int) : Prop := ∀ x, f x = if e ≤ x ∧ x ≤ p then some (cn ns e x) else none
theorem CT.start (ns : List Int) (e : Int) : CT ns e e (fput (fun _ => none) e 1) := by
  intro x
  by_cases q : x = e
  · subst q; rw [fput_eq, if_pos ⟨by omega, by omega⟩, cn_end]
  · rw [fput_ne q, if_neg (by omega)]
/-- what is added by the link -/
def cbl (ns : List Int) (f : Int → Option Int) (x : Int) : Int := if at0 ns x = x - 1 then 0 else (f (at0 ns x)).getD 0
theorem CT.link {ns : List Int} {e p x : Int} {f : Int → Option Int} (hF : Form ns) (h : CT ns e p f) (h0 : 0 ≤ e) (hx : e < x) (hp : x ≤ p + 1) (hs : x < ns.length) : cbl ns f x + cn ns e (x - 1) = cn ns e x := by
  have hb := at0_lt hF (i := x) (by omega) hs
  unfold cbl
  by_cases q : at0 ns x = x - 1
  · rw [if_pos q, cn_step hx (by omega)]; omega
  · rw [if_neg q, h]
    by_cases q2 : e ≤ at0 ns x
    · rw [if_pos ⟨q2, by omega⟩, cn_link hx (by omega) q2, Option.getD_some]; omega
    · rw [if_neg (by omega), cn_step hx (by omega), Option.getD_none]; omega
theorem CT.next {ns : List Int} {e p : Int} {f : Int → Option Int} (h : CT ns e p f) (hp : e ≤ p) : CT ns e (p + 1) (fput f (p + 1) (cn ns e (p + 1))) := by
  intro x
  by_cases q : x = p + 1
  · subst q; rw [fput_eq, if_pos ⟨by omega, by omega⟩]
  · rw [fput_ne q, h]
    by_cases q2 : e ≤ x ∧ x ≤ p
    · rw [if_pos q2, if_pos (by omega)]
    · rw [if_neg q2, if_neg (by omega)]
/-! ### chains by their numbers -/
def bl (ns : List Int) (e x : Int) : Int := if at0 ns x < x - 1 ∧ e ≤ at0 ns x then cn ns e (at0 ns x) else 0
inductive NC (ns : List Int) (e : Int) : Int → Int → List Int → Prop
  | one : NC ns e e 0 [e]
  | link {x n : Int} {cs : List Int} (h : e < x) (h1 : at0 ns x < x - 1) (h2 : e ≤ at0 ns x) (t : NC ns e (at0 ns x) n cs) : NC ns e x n (x :: cs)
  | step {x n : Int} {cs : List Int} (h : e < x) (t : NC ns e (x - 1) n cs) : NC ns e x (bl ns e x + n) (x :: cs)
section
variable {ns cs ds : List Int} {e x n m p : Int} {f : Int → Option Int}
theorem cn_bl (h : e < x) : cn ns e x = cn ns e (x - 1) + bl ns e x := by
  unfold bl
  by_cases q : at0 ns x < x - 1 ∧ e ≤ at0 ns x
  · rw [if_pos q, cn_link h q.1 q.2]
  · rw [if_neg q, cn_step h q, Int.add_zero]
theorem bl_nn : 0 ≤ bl ns e x := by
  unfold bl
  split
  · have := cn_pos' ns e (at0 ns x); omega
  · omega
theorem CT.bl (hF : Form ns) (h : CT ns e p f) (h0 : 0 ≤ e) (hx : e < x) (hp : x ≤ p + 1) (hs : x < ns.length) : cbl ns f x = VB.bl ns e x := by
  have h1 := h.link hF h0 hx hp hs
  have h2 := cn_bl (ns := ns) hx
  omega
theorem NC.head (h : NC ns e x n cs) : ∃ r, cs = x :: r := by cases h <;> exact ⟨_, rfl⟩
theorem NC.range (h : NC ns e x n cs) : 0 ≤ n ∧ n < cn ns e x ∧ e ≤ x := by
  induction h with
  | one => rw [cn_end]; omega
  | @link x n cs h h1 h2 t ih =>
    have := cn_link h h1 h2
    have := cn_pos' ns e (x - 1)
    omega
  | @step x n cs h t ih =>
    have := cn_bl (ns := ns) h
    have := bl_nn (ns := ns) (e := e) (x := x)
    omega
/-- one chain for a number -/
theorem NC.uniq (h : NC ns e x n cs) : NC ns e x n ds → cs = ds := by
  induction h generalizing ds with
  | one =>
    intro g
    generalize hk : (0 : Int) = k at g
    cases g with
    | one => rfl
    | link h _ _ _ => omega
    | step h _ => omega
  | @link x n cs h h1 h2 t ih =>
    intro g
    have hr := t.range
    have hb : bl ns e x = cn ns e (at0 ns x) := if_pos ⟨h1, h2⟩
    generalize hn : n = k at g
    cases g with
    | one => omega
    | link _ _ _ g => subst hn; rw [ih g]
    | step _ g => have := g.range; omega
  | @step x n cs h t ih =>
    intro g
    have hr := t.range
    generalize hn : bl ns e x + n = k at g
    cases g with
    | one => omega
    | link _ h1 h2 g =>
      have hb : bl ns e x = cn ns e (at0 ns x) := if_pos ⟨h1, h2⟩
      have := g.range
      omega
    | @step _ m _ _ g =>
      have e1 : n = m := by omega
      subst e1
      rw [ih g]
/-- one number for a chain -/
theorem NC.num (h : NC ns e x n cs) : NC ns e x m cs → n = m := by
  induction h generalizing m with
  | one => intro g; cases g with
    | one => rfl
    | link h _ _ _ => omega
    | step h _ => omega
  | @link x n cs h h1 h2 t ih =>
    intro g
    obtain ⟨r, hr⟩ := t.head
    cases g with
    | one => omega
    | link _ _ _ g => exact ih g
    | step _ g => obtain ⟨r2, hr2⟩ := g.head; rw [hr] at hr2; have := (List.cons.inj hr2).1; omega
  | @step x n cs h t ih =>
    intro g
    obtain ⟨r, hr⟩ := t.head
    cases g with
    | one => omega
    | link _ _ _ g => obtain ⟨r2, hr2⟩ := g.head; rw [hr] at hr2; have := (List.cons.inj hr2).1; omega
    | step _ g => rw [ih g]
/-- a greater number, a greater chain -/
theorem NC.lt (h : NC ns e x n cs) : ∀ {m : Int} {ds : List Int}, NC ns e x m ds → n < m → cs < ds := by
  induction h with
  | one => intro m ds g hlt; have := g.range; rw [cn_end] at this; omega
  | @link x n cs h h1 h2 t ih =>
    intro m ds g hlt
    cases g with
    | one => omega
    | link _ _ _ g => exact List.Lex.cons (ih g hlt)
    | step _ g =>
      obtain ⟨r, rfl⟩ := t.head
      obtain ⟨r2, rfl⟩ := g.head
      exact List.Lex.cons (List.Lex.rel h1)
  | @step x n cs h t ih =>
    intro m ds g hlt
    have hr := t.range
    cases g with
    | one => omega
    | link _ h1 h2 g =>
      have hb : bl ns e x = cn ns e (at0 ns x) := if_pos ⟨h1, h2⟩
      have := g.range
      omega
    | step _ g => exact List.Lex.cons (ih g (by omega))
end
section
variable {ns cs ds : List Int} {e x n m p c : Int} {f : Int → Option Int}
theorem NC.mem (hF : Form ns) (h0 : 0 ≤ e) (h : NC ns e x n cs) (hs : x < ns.length) : ∀ d ∈ cs, e ≤ d ∧ d ≤ x := by
  induction h with
  | one => intro d hd; have : d = e := by simpa using hd
           omega
  | @link x n cs h h1 h2 t ih =>
    intro d hd
    rcases List.mem_cons.mp hd with rfl | hd
    · omega
    · have := ih (by omega) d hd; omega
  | @step x n cs h t ih =>
    intro d hd
    rcases List.mem_cons.mp hd with rfl | hd
    · omega
    · have := ih (by omega) d hd; omega
theorem NC.last (h : NC ns e x n cs) : cs.getLast? = some e := by
  induction h with
  | one => rfl
  | link h h1 h2 t ih => obtain ⟨r, rfl⟩ := t.head; simpa using ih
  | step h t ih => obtain ⟨r, rfl⟩ := t.head; simpa using ih
theorem NC.two (h : NC ns e x n (m :: c :: cs)) : m = x ∧ e < x ∧ ((c = at0 ns x ∧ at0 ns x < x - 1 ∧ NC ns e c n (c :: cs)) ∨ (c = x - 1 ∧ ∃ r, n = bl ns e x + r ∧ NC ns e c r (c :: cs))) := by
  cases h with
  | link h h1 h2 t =>
    obtain ⟨r, hr⟩ := t.head
    have e1 := (List.cons.inj hr).1
    subst e1
    exact ⟨rfl, h, .inl ⟨rfl, h1, t⟩⟩
  | step h t =>
    obtain ⟨r, hr⟩ := t.head
    have e1 := (List.cons.inj hr).1
    subst e1
    exact ⟨rfl, h, .inr ⟨rfl, _, rfl, t⟩⟩
theorem NC.len (hF : Form ns) (h0 : 0 ≤ e) (h : NC ns e x n cs) (hs : x < ns.length) : (cs.length : Int) ≤ x - e + 1 := by
  induction h with
  | one => simp
  | @link x n cs h h1 h2 t ih =>
    have := ih (by omega)
    simp; omega
  | @step x n cs h t ih =>
    have := ih (by omega)
    simp; omega
theorem NC.drop (h : NC ns e x n cs) : ∀ i, i < cs.length → ∃ y r, NC ns e y r (cs.drop i) := by
  induction h with
  | one => intro i hi; have : i = 0 := by simpa using hi
           subst this; exact ⟨_, _, .one⟩
  | @link x n cs h h1 h2 t ih =>
    intro i hi
    cases i with
    | zero => exact ⟨_, _, .link h h1 h2 t⟩
    | succ i => exact ih i (by simpa using hi)
  | @step x n cs h t ih =>
    intro i hi
    cases i with
    | zero => exact ⟨_, _, .step h t⟩
    | succ i => exact ih i (by simpa using hi)
theorem drop_two {i : Nat} {a b : Int} (h1 : cs[i]? = some a) (h2 : cs[i + 1]? = some b) : cs.drop i = a :: b :: cs.drop (i + 2) := by
  obtain ⟨hi, rfl⟩ := List.getElem?_eq_some_iff.mp h1
  obtain ⟨hj, rfl⟩ := List.getElem?_eq_some_iff.mp h2
  rw [List.drop_eq_getElem_cons hi, List.drop_eq_getElem_cons hj]
theorem NC.pair (h : NC ns e x n cs) {i : Nat} {a b : Int} (h1 : cs[i]? = some a) (h2 : cs[i + 1]? = some b) : e < a ∧ (b = a - 1 ∨ b = at0 ns a) := by
  have hi := (List.getElem?_eq_some_iff.mp h1).1
  obtain ⟨y, r, g⟩ := h.drop i hi
  rw [drop_two h1 h2] at g
  obtain ⟨e1, e2, e3⟩ := g.two
  subst e1
  refine ⟨e2, ?_⟩
  rcases e3 with ⟨q, _⟩ | ⟨q, _⟩
  · exact .inr q
  · exact .inl q
end
section
variable {K : PySem.W.Frag} {H : Hp} {Q : VK} {a : Addr} {ts : List Int} {t : Int}
theorem w_notInT (h : SqT K H a (ts.map V.int)) (q : Q (.bl (!decide (t ∈ ts))) H) : rIn K true (.int t) (.ref a) H Q :=
  ⟨a, _, rfl, .inr h, rfl, flat_ints ts, by rw [inV_ints]; exact q⟩
end
theorem Tr.ne {M : List Addr} {H0 H : Hp} {W : List (Addr × HO)} {a b : Addr} {o o' : HO} (S : Tr M H0 H W) (i j : Nat) (h : i ≠ j) (h1 : W[i]? = some (a, o)) (h2 : W[j]? = some (b, o')) : a ≠ b := by
  rintro rfl
  have q1 : (W.map Prod.fst)[i]? = some a := by rw [List.getElem?_map, h1]; rfl
  have q2 : (W.map Prod.fst)[j]? = some a := by rw [List.getElem?_map, h2]; rfl
  obtain ⟨b1, c1⟩ := List.getElem?_eq_some_iff.mp q1
  obtain ⟨b2, c2⟩ := List.getElem?_eq_some_iff.mp q2
  exact h ((List.getElem_inj S.nd).mp (c1.trans c2.symm))
end VB

namespace VB
open PySem PySem.Spec PyProof.Rows L2
/-! ### list(range(i, j, -1)) -/
def drg (i j : Int) : List Int := (List.range (i - j).toNat).map fun k => i - (k : Nat)
theorem drg_length (i j : Int) : (drg i j).length = (i - j).toNat := by unfold drg; rw [List.length_map, List.length_range]
def LDnE (Q : VK) (vs : List V) (H : Hp) : Prop := ∃ i j : Int, vs = [.int i, .int j, .int (-1)] ∧ (-(2 ^ 62) ≤ i ∧ i < 2 ^ 62 ∧ -(2 ^ 62) ≤ j ∧ j < 2 ^ 62 ∧ (i - j).toNat ≤ 2 ^ 24) ∧
  ∀ q, H q = none → Q (.ref q) (upd H q (.lst ((drg i j).map V.int)))
def tLDn (ta : TA) : TE := fun σ H Q => ta σ H fun vs H1 => LDnE Q vs H1
theorem vals_dn {i j : Int} {acc : Array Value} (h : ItemsOf (fun k v => ∃ t, v = .int (i + k * (-1)) t) acc (i - j).toNat) : Vals ((drg i j).map V.int) acc.toList := by
  have e : acc.toList.length = (i - j).toNat := by rw [Array.length_toList]; exact h.1
  unfold drg
  rw [List.map_map, ← e]
  refine vals_of_get acc.toList _ fun m u hm => ?_
  obtain ⟨t, rfl⟩ := h.2 m u (by rw [← hm, Array.getElem?_toList])
  refine ⟨t, ?_⟩
  rw [show i + (m : Int) * -1 = i - m by omega]
section
variable {X : Cx}
theorem pe_listDn {a b c : Expr} {ta : TA} {p pos p2 pos2 : Pos} (hc : X.calm = true) (hgL : Gl X "list") (hmL : X.mg "list" = none) (hgR : Gl X "range") (hmR : X.mg "range" = none) (ha : PA X [a, b, c] ta)
    (hs : starEach [a, b, c] X.env = (false, eval a X.env) :: starEach [b, c] X.env := by rfl) (hpl : (backTo pos (starEach [b, c] X.env)).any (·.1) = false := by rfl)
    (na : starEach [Expr.Call (.Name "range" p) [a, b, c] [] pos] X.env = (false, eval (Expr.Call (.Name "range" p) [a, b, c] [] pos) X.env) :: starEach [] X.env := by rfl) :
    PE X (.Call (.Name "list" p2) [.Call (.Name "range" p) [a, b, c] [] pos] [] pos2) (tLDn ta) := by
  refine ⟨fun pins s σ H Q I h => ?_⟩
  refine Call_ (ld_blt I hgL hmL boot_list (PyProof.Rows.callWith_type1 (args_cons ?_ na) na))
  refine Call_ (ld_blt I hgR hmR boot_range (PyProof.Rows.callWith_type1 (thn (ha.run pos pins s σ H _ I h) fun us s1 ⟨vs, H1, I1, r1, q1⟩ => ?_) hs hpl))
  obtain ⟨i, j, e, ⟨b1, b2, b3, b4, b5⟩, q⟩ := q1
  subst e
  obtain ⟨c0, c1, c2, c3⟩ := RgC.neg b1 b2 b3 b4
  obtain ⟨u1, ur, e1, r, r2⟩ : ∃ u ur, us = u :: ur ∧ RelV (.int i) u ∧ Vals [.int j, .int (-1)] ur := by
    cases r1 with
    | cons r r2 => exact ⟨_, _, rfl, r, r2⟩
  obtain ⟨u2, ur2, e2, r', r3⟩ : ∃ u ur2, ur = u :: ur2 ∧ RelV (.int j) u ∧ Vals [.int (-1)] ur2 := by
    cases r2 with
    | cons r r2 => exact ⟨_, _, rfl, r, r2⟩
  obtain ⟨u3, e3, r''⟩ := r3.one
  obtain ⟨t, rfl⟩ := r
  obtain ⟨t', rfl⟩ := r'
  obtain ⟨t'', rfl⟩ := r''
  subst e1 e2 e3
  refine call_range_3 c0 ?_ (.inl (PyProof.noPylong_small c1))
  refine args_nil ?_
  have I2 : Inv X pins σ H1 { s1 with heap := s1.heap.push { cls := .type "range", data := .fields #[.int i t, .int j t', .int (-1) t''] } } :=
    I1.kept (t' := s1.toks) fun b o e => Heap.get?_push_of_some _ e
  refine call_list_range (I2.ok.hd hc) (IsRange.new ..) c2 c3 b5 fun h' tk acc c' hk e' hi => ?_
  refine ⟨.ref _, _, I2.laid hk (Nat.le_refl _) (show ObjOk X.prog X.w _ _ _ (.lst ((drg i j).map V.int)) from ⟨?_, acc.toList, c', vals_dn hi, ?_⟩), rfl, q _ (I2.hok.fresh (Nat.le_refl _))⟩
  · rw [List.length_map, drg_length, sizeLine_eq]; omega
  · rw [Array.toArray_toList]; exact e'
variable {K : PySem.W.Frag} {σ : L2.St} {H H0 : Hp} {Q : VK} {M : List Addr} {W : List (Addr × HO)} {ta : TA} {i j : Int}
theorem w_ldn (q : ta σ H fun vs H1 => LDnE Q vs H1) : tLDn ta σ H Q := q
theorem w_ldnE (S : Tr M H0 H W) (h0 : -1 ≤ i) (h1 : i ≤ 100000) (h2 : -1 ≤ j) (h3 : j ≤ 100000) (k : ∀ p G, Tr M H0 G ((p, .lst ((drg i j).map V.int)) :: W) → Q (.ref p) G) : LDnE Q [.int i, .int j, .int (-1)] H :=
  ⟨i, j, rfl, ⟨by omega, by omega, by omega, by omega, by omega⟩, fun q hq => k q _ (S.new hq)⟩
end
section
variable {X : Cx} {K : PySem.W.Frag}
theorem cr_sumK (h : X.K = K) (hc : X.calm = true) : CallR X (.builtin "sum") (rSum K) := h ▸ cr_sum hc
theorem w_sum {H : Hp} {Q : VK} {a : Addr} {ns : List Int} (h : SqL K H a (ns.map V.int)) (q : Q (.int ns.sum) H) : rSum K [.ref a] H Q := ⟨a, ns, rfl, h, q⟩
variable {ns ls : List Int} {e x : Int}
/-- the counts of those that may follow -/
theorem sum_next (hF : Form ns) (hx : 0 < x) (hs : x < ns.length) (he : e < x) (hm : ∀ t, t ∈ ls ↔ (t = at0 ns x ∨ t = x - 1) ∧ e ≤ t) (ha : ls.Pairwise (· < ·)) : (ls.map (cn ns e)).sum = cn ns e x := by
  have hb := at0_lt hF hx hs
  by_cases q : at0 ns x < x - 1 ∧ e ≤ at0 ns x
  · have e1 : ls = [at0 ns x, x - 1] := asc_ext ha (by simpa using q.1) fun t => by
      rw [hm]
      constructor
      · rintro ⟨h, _⟩; simpa using h
      · intro h
        have h2 : t = at0 ns x ∨ t = x - 1 := by simpa using h
        exact ⟨h2, by omega⟩
    rw [e1, cn_link he q.1 q.2]
    simp
    omega
  · have e1 : ls = [x - 1] := asc_ext ha (by simp) fun t => by
      rw [hm]
      constructor
      · rintro ⟨h, h2⟩; simp; omega
      · intro h
        have h2 : t = x - 1 := by simpa using h
        exact ⟨.inr h2, by omega⟩
    rw [e1, cn_step he q]
    simp
end
end VB

namespace VB
open PySem PySem.Spec PyProof.Rows L2
/-! ### <= of two lists of ints -/
def leI : List Int → List Int → Bool
  | [], _ => true
  | _ :: _, [] => false
  | x :: xs, y :: ys => if (x == y) = true then leI xs ys else decide (x ≤ y)
theorem leI_lt : ∀ {xs ys : List Int}, ys < xs → leI xs ys = false
  | [], ys, h => (List.not_lt_nil ys h).elim
  | x :: xs, [], _ => rfl
  | x :: xs, y :: ys, h => by
    unfold leI
    cases h with
    | rel h => rw [if_neg (by simp; omega)]; simpa using h
    | cons h => rw [if_pos (by simp)]; exact leI_lt h
theorem firstLt_succ {e r : Nat → Bool} {z : Bool} : ∀ l : List Nat, SeqAt.firstLt e r z (l.map Nat.succ) = SeqAt.firstLt (fun j => e (j + 1)) (fun j => r (j + 1)) z l
  | [] => rfl
  | j :: t => by
    rw [List.map_cons]
    unfold SeqAt.firstLt
    rw [firstLt_succ t]
theorem leI_first : ∀ xs ys : List Int, SeqAt.firstLt (fun j => xs.getD j 0 == ys.getD j 0) (fun j => decide (xs.getD j 0 ≤ ys.getD j 0)) (decide (xs.length ≤ ys.length)) (List.range (min xs.length ys.length)) = leI xs ys
  | [], ys => by simp [SeqAt.firstLt, leI]
  | x :: xs, [] => by simp [SeqAt.firstLt, leI]
  | x :: xs, y :: ys => by
    have ih := leI_first xs ys
    have e1 : min (x :: xs).length (y :: ys).length = min xs.length ys.length + 1 := by simp
    rw [e1, List.range_succ_eq_map]
    unfold SeqAt.firstLt
    rw [firstLt_succ]
    unfold leI
    rw [← ih]
    simp
def rLeL (K : PySem.W.Frag) : R2 := fun x y H Q => ∃ (a b : Addr) (ns ms : List Int), x = .ref a ∧ y = .ref b ∧ SqL K H a (ns.map V.int) ∧ SqL K H b (ms.map V.int) ∧ Q (.bl (leI ns ms)) H
theorem op_leL {X : Cx} {K : PySem.W.Frag} (hK : X.K = K) (hu : X.A.units + 1 < cLine) : OpR X (compareOp .LtE) (rLeL K) := by
  subst hK
  intro pins s σ H x y v u Q I rx ry h
  obtain ⟨a, b, ns, ms, rfl, rfl, ha, hb, q⟩ := h
  cases rx
  cases ry
  obtain ⟨us, r1, p1, _⟩ := I.list ha
  obtain ⟨ws, r2, p2, _⟩ := I.list hb
  have i1 := ints_of_vals r1
  have i2 := ints_of_vals r2
  have e1 : us.toArray.size = ns.length := by rw [List.size_toArray]; exact i1.length
  have e2 : ws.toArray.size = ms.length := by rw [List.size_toArray]; exact i2.length
  have g1 : ∀ j (h1 : j < us.toArray.size), ∃ t, us.toArray[j] = .int (ns.getD j 0) t := fun j h1 => i1.int_at _ _ (by simp at h1; simp [h1])
  have g2 : ∀ j (h1 : j < ws.toArray.size), ∃ t, ws.toArray[j] = .int (ms.getD j 0) t := fun j h1 => i2.int_at _ _ (by simp at h1; simp [h1])
  have R := SeqAt.RcOp.lists_le (A := X.A) (s := s) (e := fun j => ns.getD j 0 == ms.getD j 0) (r := fun j => decide (ns.getD j 0 ≤ ms.getD j 0)) p1.isList p2.isList (by omega)
    (fun j h1 h2 => by
      obtain ⟨t, f1⟩ := g1 j h1
      obtain ⟨t', f2⟩ := g2 j h2
      rw [f1, f2]
      exact SeqAt.EqAt.int_int _ _ _ _)
    (fun j h1 h2 _ => by
      obtain ⟨t, f1⟩ := g1 j h1
      obtain ⟨t', f2⟩ := g2 j h2
      rw [f1, f2]
      exact fun _ _ _ _ h => PyProof.Rows.le_int h)
  rw [e1, e2, leI_first] at R
  have z : wpAny (model X.prog X.w) X.A (compareOp .LtE (.ref a) (.ref b)) (EP X pins σ Q) X.xe s := R X.prog X.w X.xe (EP X pins σ Q) ⟨.bl _, H, I, rfl, q⟩
  exact z
theorem w_leL {K : PySem.W.Frag} {H : Hp} {Q : VK} {a b : Addr} {ns ms : List Int} (h1 : SqL K H a (ns.map V.int)) (h2 : SqL K H b (ms.map V.int)) (q : Q (.bl (leI ns ms)) H) : rLeL K (.ref a) (.ref b) H Q :=
  ⟨a, b, ns, ms, rfl, rfl, h1, h2, q⟩
theorem drg_cons {x e : Int} (h : e ≤ x) : drg x (e - 1) = x :: drg (x - 1) (e - 1) := by
  unfold drg
  rw [show (x - (e - 1)).toNat = (x - 1 - (e - 1)).toNat + 1 by omega, List.range_succ_eq_map, List.map_cons, List.map_map]
  congr 1
  · simp
  · apply List.map_congr_left
    intro k _
    show x - ((k + 1 : Nat) : Int) = x - 1 - k
    omega
theorem NC.top (ns : List Int) (e : Int) : ∀ (n : Nat) (x : Int), x = e + n → NC ns e x (cn ns e x - 1) (drg x (e - 1)) := by
  intro n
  induction n with
  | zero =>
    intro x hx
    have e1 : x = e := by omega
    subst e1
    rw [cn_end, drg_cons (Int.le_refl _), show drg (x - 1) (x - 1) = [] by simp [drg]]
    exact .one
  | succ n ih =>
    intro x hx
    have h := ih (x - 1) (by omega)
    have hb := cn_bl (ns := ns) (e := e) (x := x) (by omega)
    rw [drg_cons (by omega), show cn ns e x - 1 = bl ns e x + (cn ns e (x - 1) - 1) by omega]
    exact .step (by omega) h
theorem cn_le (ns : List Int) (e : Int) : ∀ (n : Nat) (x : Int), (x - e).toNat ≤ n → cn ns e x ≤ 2 ^ n := by
  intro n
  induction n with
  | zero =>
    intro x hx
    rw [cn, dif_neg (by omega)]
    decide
  | succ n ih =>
    intro x hx
    have hp : (2 : Int) ^ (n + 1) = 2 * 2 ^ n := by rw [Int.pow_succ]; omega
    have h1 := ih (x - 1) (by omega)
    have h0 := cn_pos' ns e (x - 1)
    by_cases h : e < x
    · by_cases h2 : at0 ns x < x - 1 ∧ e ≤ at0 ns x
      · have h3 := ih (at0 ns x) (by omega)
        rw [cn_link h h2.1 h2.2]
        omega
      · rw [cn_step h h2]
        omega
    · rw [cn, dif_neg h]
      omega
theorem cn_small {ns : List Int} {e s : Int} (h0 : 0 ≤ e) (hs : s < 150) : (cn ns e s).natAbs < 2 ^ 250 := by
  have h1 := cn_le ns e 150 s (by omega)
  have h2 := cn_pos' ns e s
  have h3 : (2 : Int) ^ 150 < 2 ^ 250 := by decide
  omega
end VB

namespace VB
open PySem PySem.Spec PyProof.Rows L2
/-! ### max(xs, default=d) -/
section
variable {P : Program} {w : World} {A : Around} {I : Addr} {fp wr : List Addr} {n : Nat} {PV : Nat → Value → Prop} {St : Nat → Heap → Prop}
/-- the walk of max's loop where a default is given: what is kept is nothing yet, or the best so far -/
theorem mxd {R : Result → Shared → Prop} {d : Value} {bt : Nat → Nat → Bool} {B : Addr} (W : Walks P w A.in1 I fp wr n PV St) (hc : CmpOf P w A.in1 .Gt PV bt) (hB : B ∉ fp)
    (nm : (toString "max" ++ toString ".loop" : String) = "max.loop") :
    ∀ (m j : Nat) (s : Shared) (o : Array Value) (c : Nat), j + m = n → St j s.heap →
      ((o = #[] ∧ j = 0) ∨ ∃ v, o = #[v, v] ∧ 0 < j ∧ PV (argBest bt (j - 1)) v) →
      s.heap.get? B = some { cls := .type "list", dict := none, data := .seq o c, slots := #[] } →
      (n = 0 → ∀ h' tk, (∀ b z, b ∉ wr → b ≠ B → s.heap.get? b = some z → h'.get? b = some z) → R (.ok (.ret d)) { s with heap := h', toks := tk }) →
      (0 < n → ∀ v h' tk, PV (argBest bt (n - 1)) v → (∀ b z, b ∉ wr → b ≠ B → s.heap.get? b = some z → h'.get? b = some z) → R (.ok (.ret v)) { s with heap := h', toks := tk }) →
      codeAny (model P w) A (.builtin "max.loop" ⟨[.ref I, .none, .ref B], [(Str.ofString "default", d)]⟩) R s := by
  have hw : B ∉ wr := fun z => hB (W.sub _ z)
  intro m
  induction m with
  | zero =>
    intro j s o c hj hst ho hS h0 h1
    have hjn : j = n := by omega
    refine codeAny_builtin F.entry_max_loop ?_
    rw [Around.under_plainId F.plain_max_loop]
    show wpAny _ A.in1 (seqItems? (.ref B) >>= _) _ _ s
    refine wpAny_bind (wpAny_seqItems hS rfl ?_)
    show wpAny _ A.in1 (tryCatch (pyNext (.ref I)) _ >>= _) _ _ s
    refine wpAny_bind (wpAny_tryCatch (W.done s _ _ (hjn ▸ hst) fun g tk kept => ?_))
    rcases ho with ⟨rfl, hz⟩ | ⟨v, rfl, hp, hP⟩
    · refine wpAny_bind (wpAny_rule ?_)
      refine wpAny_pure ?_
      exact h0 (by omega) g tk fun b z hb _ e => kept b z hb e
    · show wpAny _ A.in1 (updateSeq B (fun _ => #[]) >>= _) _ _ _
      refine wpAny_bind (wpAny_updateSeq (kept B _ hw hS) rfl ?_)
      refine wpAny_bind (wpAny_letGo (wpAny_pure ?_))
      exact h1 (by omega) v _ tk (hjn ▸ hP) fun b z hb hne e => (Heap.get?_update_other _ _ (Ne.symm hne)).trans (kept b z hb e)
  | succ m ih =>
    intro j s o c hj hst ho hS h0 h1
    refine codeAny_builtin F.entry_max_loop ?_
    rw [Around.under_plainId F.plain_max_loop]
    show wpAny _ A.in1 (seqItems? (.ref B) >>= _) _ _ s
    refine wpAny_bind (wpAny_seqItems hS rfl ?_)
    show wpAny _ A.in1 (tryCatch (pyNext (.ref I)) _ >>= _) _ _ s
    refine wpAny_bind (wpAny_tryCatch (W.item j s _ _ (by omega) hst fun u g tk hu hst2 kept => ?_))
    have hS2 := kept B _ hw hS
    rcases ho with ⟨rfl, hz⟩ | ⟨v, rfl, hp, hP⟩
    · show wpAny _ A.in1 (updateSeq B (fun _ => #[u, u]) >>= _) _ _ _
      refine wpAny_bind (wpAny_updateSeq hS2 rfl ?_)
      rw [nm]
      refine wpAny_pure ⟨plainId_quiet F.plain_max_loop _, ih (j + 1) _ #[u, u] _ (by omega) (W.frame _ _ _ hst2 fun b hb z e => ?_) (.inr ⟨u, rfl, by omega, ?_⟩) (Heap.get?_update_self _ hS2 rfl) (fun z => by omega) fun hn v' g' tk' hP' k' => ?_⟩
      · exact (Heap.get?_update_other _ _ (fun q : B = b => hB (by rw [q]; exact hb))).trans e
      · rw [hz] at hu ⊢
        exact hu
      · exact h1 hn v' g' tk' hP' fun b z hb hne e => k' b z hb hne ((Heap.get?_update_other _ _ (Ne.symm hne)).trans (kept b z hb e))
    · show wpAny _ A.in1 (tryCatch (holding [u, u] (richCompare .Gt u v >>= _)) _ >>= _) _ _ _
      refine wpAny_bind (wpAny_tryCatch (wpAny_holding (wpAny_bind (hc j (argBest bt (j - 1)) u v _ _ _ hu hP ?_))))
      refine wpAny_bind (wpAny_holding (wpAny_truthy_bool ?_))
      refine wpAny_bind (wpAny_letGo (wpAny_pure ?_))
      obtain ⟨i, rfl⟩ : ∃ i, j = i + 1 := ⟨j - 1, by omega⟩
      rw [Nat.add_sub_cancel] at hP ⊢
      cases hb : bt (i + 1) (argBest bt i) with
      | true =>
        rw [if_pos rfl]
        refine wpAny_bind (wpAny_updateSeq hS2 rfl ?_)
        refine wpAny_bind (wpAny_letGo ?_)
        rw [nm]
        refine wpAny_pure ⟨plainId_quiet F.plain_max_loop _, ih (i + 1 + 1) _ #[u, u] _ (by omega) (W.frame _ _ _ hst2 fun b hb z e => ?_) (.inr ⟨u, rfl, by omega, ?_⟩) (Heap.get?_update_self _ hS2 rfl) (fun z => by omega) fun hn v' g' tk' hP' k' => ?_⟩
        · exact (Heap.get?_update_other _ _ (fun q : B = b => hB (by rw [q]; exact hb))).trans e
        · rw [Nat.add_sub_cancel, argBest, hb, if_pos rfl]
          exact hu
        · exact h1 hn v' g' tk' hP' fun b z hb hne e => k' b z hb hne ((Heap.get?_update_other _ _ (Ne.symm hne)).trans (kept b z hb e))
      | false =>
        rw [if_neg Bool.false_ne_true]
        refine wpAny_bind (wpAny_letGo ?_)
        rw [nm]
        refine wpAny_pure ⟨plainId_quiet F.plain_max_loop _, ih (i + 1 + 1) _ #[v, v] _ (by omega) hst2 (.inr ⟨v, rfl, by omega, ?_⟩) hS2 (fun z => by omega) fun hn v' g' tk' hP' k' => ?_⟩
        · rw [Nat.add_sub_cancel, argBest, hb, if_neg Bool.false_ne_true]
          exact hP
        · exact h1 hn v' g' tk' hP' fun b z hb hne e => k' b z hb hne (kept b z hb e)
end
theorem args_mxd (a v : Value) : argsOk "max" ⟨[a], [(Str.ofString "default", v)]⟩ := by
  unfold argsOk
  kernel_rfl
section
variable {P : Program} {w : World} {A : Around} {E : Value → Shared → Prop} {s : Shared} {l : Addr} {its : List Value} {ns : List Int} {Q : Value → Shared → Prop} {d : Value}
/-- what a built-in function's own text gives, where the text ends or goes on by another one -/
def FinQ (P : Program) (w : World) (A : Around) (Q : Value → Shared → Prop) (E : Value → Shared → Prop) : PySem.Fin → Shared → Prop := fun fin s' => match fin with
  | .done f => (match (Except.ok f : Result) with | .ok (.ret v) => Q v s' | .ok _ => False | .error e => E e s')
  | .again c' => c'.quiet = true ∧ codeAny (model P w) A c' (fun r s' => match r with | .ok (.ret v) => Q v s' | .ok _ => False | .error e => E e s') s'
theorem call_tree_kw {id : String} {b : Builtin} {args : List Value} {kw : List (Str × Value)} (hk : builtinKind id = none) (hp : plainId id = true) (hb : entryFor table id = some b) (ha : argsOk id ⟨args, kw⟩)
    (hc : wpAny (model P w) A.in1 (b ⟨args, kw⟩) (FinQ P w A Q E) E s) : wpAny (model P w) A (call (.builtin id) args kw) Q E s := by
  refine wpAny_call (codeAny_call_builtin hp hb ?_)
  simp only [checkBuiltinCall, hk]
  cases hsig : Manifest.signature? id with
  | none => exact wpAny_pure hc
  | some sig =>
    have h2 : Bind.checkArgs id sig ⟨args, kw⟩ = pure () := by simpa only [argsOk, hsig] using ha
    simp only [h2]
    exact wpAny_pure hc
theorem mxd_raw (hh : A.handled = none) (hl : s.heap.IsList l its.toArray) (hi : IntsAre its ns)
    (h0 : ns = [] → ∀ h' tk, (∀ b o, s.heap.get? b = some o → h'.get? b = some o) → Q d { s with heap := h', toks := tk })
    (h1 : ∀ h' tk M t', (∀ b o, s.heap.get? b = some o → h'.get? b = some o) → M ∈ ns → (∀ a, a ∈ ns → a ≤ M) → Q (.int M t') { s with heap := h', toks := tk }) :
    wpAny (model P w) A (call (.builtin "max") [.ref l] [(Str.ofString "default", d)]) Q E s := by
  have nm : (toString "max" ++ toString ".loop" : String) = "max.loop" := by decide
  obtain ⟨xs, e⟩ := hi.allInts.items
  have hn : numsOf (intItems xs).toList = ns := by rw [← e]; exact hi.numsOf
  rw [nums_intItems] at hn
  subst hn
  rw [e] at hl
  refine call_tree_kw F.kind_max F.plain_max F.entry_max (args_mxd _ _) ?_
  show wpAny _ A.in1 (Builtin.Builtins.bindParams "max" ["key", "default"] 0 ⟨[], [(Str.ofString "default", d)]⟩ >>= _) _ _ s
  refine wpAny_bind (wpAny_of_eq (show Builtin.Builtins.bindParams "max" ["key", "default"] 0 ⟨[], [(Str.ofString "default", d)]⟩ = pure [none, some d] from rfl) ?_)
  refine wpAny_bind (wpAny_pure ?_)
  refine wpAny_bind (iter_intList hl fun s₂ e2 st hfp hlI => ?_)
  refine wpAny_bind (wpAny_newObj_type ?_)
  have hne : s₂.heap.objs.size ∉ [s.heap.objs.size, l] := fun hm => Nat.lt_irrefl _ (hfp _ hm)
  have W := Walks.list (prog := P) (w := w) (A := A.in1) hh s.heap.objs.size l hlI (intItems xs)
  have kept : ∀ h' : Heap, (∀ b z, b ∉ [s.heap.objs.size] → b ≠ s₂.heap.objs.size → (s₂.heap.push { cls := .type "list", data := .seq #[] }).get? b = some z → h'.get? b = some z) → ∀ b o, s.heap.get? b = some o → h'.get? b = some o := by
    intro h' hk b o eb
    have hlt := Heap.lt_size eb
    have hs2 : s.heap.objs.size < s₂.heap.objs.size := hfp _ (List.mem_cons_self ..)
    refine hk b o (fun z => ?_) (Nat.ne_of_lt (Nat.lt_trans hlt hs2)) (Heap.get?_push_of_some _ ?_)
    · rw [List.mem_singleton] at z
      exact Nat.lt_irrefl _ (z ▸ hlt)
    · rw [e2]
      exact Heap.get?_push_of_some _ eb
  rw [nm]
  refine wpAny_pure ⟨plainId_quiet F.plain_max_loop _, mxd W (CmpOf.ints_gt (numAt xs) (fun _ _ => intItems_at)) hne nm _ 0 _ #[] _ (Nat.zero_add _) (W.frame _ _ _ st fun b _ o e => Heap.get?_push_of_some _ e) (.inl ⟨rfl, rfl⟩) (Heap.get?_push_size _ rfl) (fun hz h' tk hk => ?_) fun hz v h' tk hP hk => ?_⟩
  · have hx : xs.size = 0 := by simpa [intItems] using hz
    have hx2 : xs.toList.map (·.1) = [] := by
      rw [List.map_eq_nil_iff]
      exact List.length_eq_zero_iff.mp hx
    have := h0 hx2 h' tk (kept h' hk)
    rw [e2]
    exact this
  · have hsz : 0 < xs.size := by simpa [intItems] using hz
    have hv : (intItems xs)[argBest (fun i j => decide (numAt xs i > numAt xs j)) (xs.size - 1)]? = some v := by simpa [intItems] using hP
    obtain ⟨t, rfl⟩ := intItems_at hv
    obtain ⟨g1, g2⟩ := argBest_gt (numAt xs) (xs.size - 1)
    have := h1 h' tk (numAt xs (argBest (fun i j => decide (numAt xs i > numAt xs j)) (xs.size - 1))) t (kept h' hk) (by rw [numAt_eq]; exact PySem.getD_mem (by rw [List.length_map, Array.length_toList]; omega)) fun a ha => by
      obtain ⟨j, hj, rfl⟩ := mem_getD ha
      rw [List.length_map, Array.length_toList] at hj
      rw [← numAt_eq]
      exact g2 j (by omega)
    rw [e2]
    exact this
end
def optV : Option Int → V
  | none => .non
  | some m => .int m
/-- the greatest of a list, if there is one -/
def MaxO (ns : List Int) : Option Int → Prop
  | none => ns = []
  | some m => m ∈ ns ∧ ∀ y ∈ ns, y ≤ m
theorem MaxO.same {ns : List Int} : ∀ {a b : Option Int}, MaxO ns a → MaxO ns b → a = b
  | none, none, _, _ => rfl
  | none, some b, h, k => by rw [show ns = [] from h] at k; exact absurd k.1 List.not_mem_nil
  | some a, none, h, k => by rw [show ns = [] from k] at h; exact absurd h.1 List.not_mem_nil
  | some a, some b, h, k => by rw [Int.le_antisymm (k.2 a h.1) (h.2 b k.1)]
def rMaxO (K : PySem.W.Frag) : List V → List V → Hp → VK → Prop := fun vs zs H Q => ∃ (a : Addr) (ns : List Int), vs = [V.ref a] ∧ zs = [.non] ∧ SqL K H a (ns.map V.int) ∧ ∀ r, MaxO ns r → Q (optV r) H
theorem cr_maxO {X : Cx} {K : PySem.W.Frag} (hK : X.K = K) (hc : X.calm = true) : CallRK X (.builtin "max") [Str.ofString "default"] (rMaxO K) := by
  subst hK
  intro pins s σ H vs zs us ws Q I r rz h
  obtain ⟨a, ns, rfl, rfl, hs, q⟩ := h
  obtain ⟨w1, rfl, e1⟩ := vals1 rz
  obtain rfl : w1 = Value.none := e1
  obtain ⟨its, rv, hl, _⟩ := I.list hs
  rw [Vals.ref1 r]
  exact mxd_raw (I.ok.hd hc) hl.isList rv.ints (fun hn h' tk hk => ⟨.non, H, I.kept hk, rfl, q none hn⟩) fun h' tk m t' hk h1 h2 => ⟨.int _, H, I.kept hk, ⟨_, rfl⟩, q (some m) ⟨h1, h2⟩⟩
theorem w_maxO {K : PySem.W.Frag} {H : Hp} {Q : VK} {a : Addr} {ns : List Int} (h : SqL K H a (ns.map V.int)) (q : ∀ r, MaxO ns r → Q (optV r) H) : rMaxO K [.ref a] [.non] H Q := ⟨a, ns, rfl, rfl, h, q⟩
theorem w_ckw {r : List V → List V → Hp → VK → Prop} {t tk : TA} {σ : L2.St} {H : Hp} {Q : VK} (q : t σ H fun vs H1 => tk σ H1 fun zs H2 => r vs zs H2 Q) : tCKw r t tk σ H Q := q
/-- max(xs) of a list that is not empty -/
theorem cr_maxK {X : Cx} {K : PySem.W.Frag} (h : X.K = K) (hc : X.calm = true) : CallR X (.builtin "max") (rMax K) := h ▸ cr_max hc
theorem w_maxL {K : PySem.W.Frag} {H : Hp} {Q : VK} {a : Addr} {ns : List Int} (h : SqL K H a (ns.map V.int)) (hn : ns ≠ []) (q : ∀ r, MaxO ns (some r) → Q (.int r) H) : rMax K [.ref a] H Q :=
  ⟨a, ns, rfl, h, List.length_pos_iff.mpr hn, fun m h1 h2 => q m ⟨h1, h2⟩⟩
/-! ### a walked list or tuple that stands in a variable -/
def iSeqV (K : PySem.W.Frag) (i : Nat) : TI := fun σ H R => ∃ a, σ[i]? = some (some (.ref a)) ∧ (((∃ xs, SqL K H a xs) ∧ R (Itl K a) H) ∨ ((∃ xs, SqT K H a xs) ∧ R (Itt K a) H))
theorem pi_seqV {X : Cx} {tg l : Expr} {i : Nat} (hl : PE X l (tVar i)) : PI X tg l (iSeqV X.K i) := by
  refine ⟨fun pins s σ H R I h => ?_⟩
  obtain ⟨a, e, h | h⟩ := h
  · exact (pi_list hl).run pins s σ H R I ⟨_, e, a, rfl, h⟩
  · exact (pi_tup hl).run pins s σ H R I ⟨_, e, a, rfl, h⟩
theorem ix_seqK {X : Cx} {K : PySem.W.Frag} (h : X.K = K) : IxR X (rIx K) := h ▸ ix_seq
theorem Tr.sqT {K : PySem.W.Frag} {M : List Addr} {H0 H : Hp} {W : List (Addr × HO)} {a : Addr} {xs : List V} (S : Tr M H0 H W) (h : SqT K H0 a xs) (n : a ∉ M) : SqT K H a xs := by
  rcases h with (h | ⟨o, h⟩) | h
  · exact .inl (.inl (S.fr _ _ h n))
  · exact .inl (.inr ⟨o, S.fr _ _ h n⟩)
  · exact .inr h
theorem seq_walk {K : PySem.W.Frag} {M : List Addr} {H0 H : Hp} {W : List (Addr × HO)} {a : Addr} {xs : List V} {i : Nat} {σ : L2.St} {R : It → Hp → Prop} (hs : SqL K H0 a xs ∨ SqT K H0 a xs) (S : Tr M H0 H W) (hn : a ∉ M) (e : σ[i]? = some (some (.ref a)))
    (k : ∀ J G, Walk J xs.length G (YAt xs) → (∀ W' H', Tr M H0 H' W' → G H') → R J H) : iSeqV K i σ H R := by
  rcases hs with h | h
  · exact ⟨a, e, .inl ⟨⟨xs, S.sq h hn⟩, k _ _ walk_list fun _ _ S' => S'.sq h hn⟩⟩
  · exact ⟨a, e, .inr ⟨⟨xs, S.sqT h hn⟩, k _ _ walk_tup fun _ _ S' => S'.sqT h hn⟩⟩
theorem w_ixSeq {K : PySem.W.Frag} {M : List Addr} {H0 H : Hp} {W : List (Addr × HO)} {a : Addr} {xs : List V} {i : Int} {v : V} {Q : VK} (hs : SqL K H0 a xs ∨ SqT K H0 a xs) (S : Tr M H0 H W) (hn : a ∉ M) (e : atI xs i = some v) (q : Q v H) : rIx K (.ref a) (.int i) H Q := by
  rcases hs with h | h
  · exact .inl (w_ixL (S.sq h hn) e q)
  · exact .inr (.inl (w_ixT (S.sqT h hn) e q))
/-! ### filters, turn by turn -/
theorem take_snoc' {α : Type} {ls : List α} {k : Nat} {l : α} (h : ls[k]? = some l) : ls.take (k + 1) = ls.take k ++ [l] := by
  rw [List.take_succ, h]
  rfl
theorem take_filt_yes {α : Type} {ls : List α} {p : α → Bool} {z : α} {j : Nat} (hz : ls[j]? = some z) (h : p z = true) : (ls.take (j + 1)).filter p = (ls.take j).filter p ++ [z] := by
  rw [List.take_succ, hz, List.filter_append]
  simp [h]
theorem take_filt_no {α : Type} {ls : List α} {p : α → Bool} {z : α} {j : Nat} (hz : ls[j]? = some z) (h : p z = false) : (ls.take (j + 1)).filter p = (ls.take j).filter p := by
  rw [List.take_succ, hz, List.filter_append]
  simp [h]
theorem take_filt_len {α : Type} {ls : List α} {p : α → Bool} {j : Nat} : ((ls.take j).filter p).length ≤ ls.length :=
  Nat.le_trans (List.length_filter_le _ _) (by rw [List.length_take]; omega)
theorem w_accI {M : List Addr} {H0 H : Hp} {W : List (Addr × HO)} {D : Addr} {ns : List Int} {z : Int} {M' : List Addr} {R : List (Addr × HO)} (S : Tr M H0 H W) (m : Nat) (h : W[m]? = some (D, .lst (ns.map V.int))) (l : ns.length < 100000)
    (k : ∀ G, Tr M H0 G (W.set m (D, .lst ((ns ++ [z]).map V.int))) → Tr M' H0 G R) : ∃ acc, H D = some (.lst acc) ∧ acc.length < sizeLine ∧ Tr M' H0 (upd H D (.lst (acc ++ [.int z]))) R := by
  refine ⟨_, S.get m h, szl (by rw [List.length_map]; exact l), ?_⟩
  rw [snoc_int]
  exact k _ (S.putN m h)
theorem w_accB {M : List Addr} {H0 H : Hp} {W : List (Addr × HO)} {D : Addr} {bs : List Bool} {z : Bool} {M' : List Addr} {R : List (Addr × HO)} (S : Tr M H0 H W) (m : Nat) (h : W[m]? = some (D, .lst (bs.map V.bl))) (l : bs.length < 100000)
    (k : ∀ G, Tr M H0 G (W.set m (D, .lst ((bs ++ [z]).map V.bl))) → Tr M' H0 G R) : ∃ acc, H D = some (.lst acc) ∧ acc.length < sizeLine ∧ Tr M' H0 (upd H D (.lst (acc ++ [.bl z]))) R := by
  refine ⟨_, S.get m h, szl (by rw [List.length_map]; exact l), ?_⟩
  rw [show bs.map V.bl ++ [V.bl z] = (bs ++ [z]).map V.bl by simp]
  exact k _ (S.putN m h)
theorem int_of_get {ls : List Int} {j : Nat} {x : V} (h : (ls.map V.int)[j]? = some x) : ∃ z, ls[j]? = some z ∧ x = .int z := by
  rw [List.getElem?_map] at h
  obtain ⟨z, hz, e⟩ := Option.map_eq_some_iff.mp h
  exact ⟨z, hz, e.symm⟩
theorem w_dnotin {td ty : TE} {σ : L2.St} {H : Hp} {Q : VK} (q : ty σ H fun y H1 => td σ H1 fun x H2 => ∃ a o, x = .ref a ∧ DGet H2 a y o ∧ Q (.bl (!o.isSome)) H2) : tDNotIn ty td σ H Q := q
def DnotE (Q : VK) (y x : V) (H : Hp) : Prop := ∃ a o, x = .ref a ∧ DGet H a y o ∧ Q (.bl (!o.isSome)) H
theorem w_dnot {td ty : TE} {σ : L2.St} {H : Hp} {Q : VK} (q : ty σ H fun y H1 => td σ H1 fun x H2 => DnotE Q y x H2) : tDNotIn ty td σ H Q := q
theorem w_dnotI {n : Nat} {f : Int → Option Int} {o : HO} {a : Addr} {H : Hp} {i : Int} {Q : VK} (d : DIO n f o) (h : H a = some o) (q : Q (.bl (!(f i).isSome)) H) : DnotE Q (.int i) (.ref a) H := ⟨a, _, rfl, d.get h i, by rw [Option.isSome_map]; exact q⟩
/-! ### ints or nothing, as data -/
def optD : Option Int → PyData
  | none => .none
  | some m => .int m
theorem dp_opt {K : PySem.W.Frag} {H : Hp} : ∀ r : Option Int, Dp K H (optV r) (optD r)
  | none => .non
  | some m => .int m
def OptS (r : Option Int) : Prop := ∀ m, r = some m → m.natAbs < 10 ^ 12
theorem lay_opts : ∀ rs : List (Option Int), PyData.canLayAll0 (rs.map optD) = true
  | [] => rfl
  | none :: rs => by rw [List.map_cons, PyData.canLayAll0, lay_opts rs]; rfl
  | some m :: rs => by rw [List.map_cons, PyData.canLayAll0, lay_opts rs]; rfl
theorem dep_opts : ∀ rs : List (Option Int), PyData.depthAll (rs.map optD) = 0
  | [] => rfl
  | none :: rs => by rw [List.map_cons, PyData.depthAll, dep_opts rs]; rfl
  | some m :: rs => by rw [List.map_cons, PyData.depthAll, dep_opts rs]; rfl
/-! ### small data -/
theorem shown_of {d : PyData} (c : d.canLay0 = true) (e : d.depth ≤ 40) (s : d.showable = true) (i : PyData.intsShort 13 d = true) (w : d.weight ≤ 400000) : Shown d :=
  ⟨c, e, s, PyData.shown_fits (B := 13) (by decide) (by decide) (PyData.leavesShort_of_canLay0 13 _ c i) (by omega)⟩
end VB

namespace VB
open PySem PySem.Spec PyProof.Rows L2 Att
/-! ### a def with one parameter and a starred one -/
/-- what a caller shows: the starred values come as a new tuple -/
def starSp (sp : Sp) : Sp := fun vs H Q E => ∃ v rest, vs = v :: rest ∧ rest.length ≤ 100 ∧ ∀ p, H p = none → sp [v, .ref p] (upd H p (.tup rest)) Q E
structure GFnV (P : Program) (w : World) (K : PySem.W.Frag) (mg : Str → Option Value) (base : Heap) (CX : CXT) (k : Nat) (f : Addr) (sp : Sp) : Prop where
  run : ∀ (A : Around) (fr : List Env) (s : Shared) (H : Hp) (us : List Value) (vs : List V) (Q : VK) (E : XK), A.guards = some [] → Room k A → Env0 P w K mg base A fr s H → Vals vs us → starSp sp vs H Q E →
    codeAny (model P w) A (.call (.ref f) ⟨us, []⟩) (CR CX fr P w H s Q E) s
/-- where the def x with a star stands -/
structure DefV (K : PySem.W.Frag) (mg : Str → Option Value) (x : Str) (st : Stmt) (pa pv : Str) : Prop where
  ex : ∃ f fd, Fun K x x st f fd ∧ mg x = some (.ref f) ∧ ∀ (u : Value) (rest : List Value), bindArgs fd ⟨u :: rest, []⟩ = (newTuple rest >>= fun t => pure [(pa, u), (pv, t)])
structure OkV (P : Program) (w : World) (K : PySem.W.Frag) (mg : Str → Option Value) (base : Heap) (CX : CXT) (k : Nat) (x : Str) (sp : Sp) : Prop where
  ex : ∃ f, mg x = some (.ref f) ∧ PySem.W.keepIn K (.ref f) = true ∧ GFnV P w K mg base CX k f sp
section
variable {P : Program} {w : World} {K : PySem.W.Frag} {mg : Str → Option Value} {base : Heap}
theorem gfnV_of {k : Nat} {x qual pa pv : Str} {st : Stmt} {f : Addr} {fd : FuncData} {N : List Str} {sp : Sp} (F : Fun K x qual st f fd) (S : FnScope N [pa, pv] (defScope st))
    (hb : ∀ (u : Value) (rest : List Value), bindArgs fd ⟨u :: rest, []⟩ = (newTuple rest >>= fun t => pure [(pa, u), (pv, t)]))
    (body : ∀ (cdv : Value) (A : Around) (fr : List Env) (s : Shared) (H : Hp) (vs : List V) (Q : VK) (E : XK), A.guards = some [] →
      Room k (A.deeper (envOfC qual (defScope st) s.heap.objs.size f cdv)) → sp vs H Q E →
      ∃ t, PSs (cxOf CX0 P w K mg base N qual (defScope st) f cdv A fr s H E) (defBody st) t ∧ t { nx := fun _ H' => Q .non H', rt := Q } (start N vs) H) :
    GFnV P w K mg base CX0 (k + 1) f sp := by
  obtain ⟨oc, od, kV, doc, pm, an, cdv, ct, osl, rfl, lk, hcd⟩ := F.ex
  constructor
  intro A fr s H us vs Q E hG hr e0 r hsp
  obtain ⟨v, rest, rfl, hl, hq⟩ := hsp
  obtain ⟨u, ur, rfl, rv, rr⟩ : ∃ u ur, us = u :: ur ∧ RelV v u ∧ Vals rest ur := by
    cases r with
    | cons a b => exact ⟨_, _, rfl, a, b⟩
  have hlr : ur.length ≤ 100 := by rw [← rr.length]; exact hl
  have keep : ∀ b o, base.get? b = some o → s.heap.get? b = some o := fun b o h => (e0.bs b o h).1
  have kin := e0.mod.kin.keeps keep
  -- the state with the tuple
  obtain ⟨T, hT⟩ : ∃ T : Obj, T = { cls := .type "tuple", data := .seq ur.toArray } := ⟨_, rfl⟩
  obtain ⟨s2, hs2⟩ : ∃ s2 : Shared, s2 = { s with heap := s.heap.push T } := ⟨_, rfl⟩
  obtain ⟨p, hp⟩ : ∃ p : Addr, p = s.heap.objs.size := ⟨_, rfl⟩
  have hn : H p = none := e0.hok.fresh (Nat.le_of_eq hp.symm)
  have pushed : ∀ b o, s.heap.get? b = some o → s2.heap.get? b = some o := fun b o h => by rw [hs2]; exact Heap.get?_push_of_some _ h
  have atp : s2.heap.get? p = some T := by rw [hs2, hp]; exact Heap.get?_push_size _ (by rw [hT]; rfl)
  have ok2 : ObjOk P w (upd H p (.tup rest)) s2.heap p (.tup rest) := ⟨Nat.le_trans hl (by decide), ur, rr, ⟨_, atp, by rw [hT], 0, by rw [hT]⟩⟩
  have hok := e0.hok.laid pushed (Nat.le_of_eq hp.symm) ok2
  have un : Un (frs fr) [] H (upd H p (.tup rest)) s.heap s2.heap := Un.laid pushed (Nat.le_of_eq hp.symm) hn
  have ne : ∀ b o, s.heap.get? b = some o → b ≠ p := fun b o h => by rw [hp]; exact Nat.ne_of_lt (Heap.lt_size h)
  have e2 : Env0 P w K mg base A fr s2 (upd H p (.tup rest)) := by
    refine ⟨e0.frames, e0.mod, fun b o h => ⟨pushed b o (keep b o h), ?_⟩, ?_, ?_, fun b hb' => ?_, hok, ?_⟩
    · rw [upd_ne (ne b o (keep b o h))]
      exact (e0.bs b o h).2
    · rw [hs2]
      show base.objs.size ≤ (s.heap.push T).objs.size
      rw [Heap.size_push]
      exact Nat.le_succ_of_le e0.bsz
    · exact Heap.FunFrames.of_keeps (fun b o h _ => ⟨o, pushed b o h, rfl⟩) e0.funs
    · obtain ⟨_, o, ho, _⟩ := e0.funs.mem hb'
      rw [upd_ne (ne b o ho)]
      exact e0.frf b hb'
    · rw [hs2]
      exact e0.bare
  have loc : ∀ y ∈ [pa, pv].zip [u, Value.ref p], (defScope st).names.lookup y.1 = some .local ∨
      ((defScope st).names.lookup y.1 = some .cell ∧ ((cellsFrom (s2.heap.objs.size + 1) (defScope st).names []).lookup y.1).isSome = true) := by
    rintro ⟨n, z⟩ hy
    cases S.par n (List.of_mem_zip hy).1 with
    | inl q => exact .inl q
    | inr q => exact .inr ⟨q, PySem.W.cellsFrom_some _ _ _ (.inl q)⟩
  refine codeAny_call_function hr.depth (kin f _ lk) rfl S.co S.gen rfl (PySem.W.codeRec_of kin hcd) ?_
  rw [hb u ur]
  refine wpAny_bind (wpAny_newTuple (wpAny_pure ?_) (Nat.le_trans hlr (by decide)))
  show wpAny _ _ _ _ _ { s with heap := s.heap.push { cls := .type "tuple", data := .seq ur.toArray } }
  rw [← hT, ← hs2, ← hp]
  refine wpAny_newFunctionEnv_cells S.kind loc ?_
  rintro env rfl s1 inC
  refine ⟨(e2.mod.nolimit.keeps fun b o h => (e2.bs b o h).1).keeps inC.toInCall.keep, codeAny_func ?_⟩
  obtain ⟨t, ht, hq'⟩ := body cdv A fr s2 (upd H p (.tup rest)) [v, .ref p] Q E hG (hr.deeper _) (hq p hn)
  have I0 := inv_start (CX := CX0) (E := E) S hr.hd e2 rfl (.cons rv (.cons rfl .nil) : Vals [v, V.ref p] [u, Value.ref p]) inC
  refine wpAny_mono (ht.run [] s1 (start N [v, .ref p]) (upd H p (.tup rest)) _ I0 hq') ?_ (fun _ _ h => ?_)
  · intro fl s3 h3
    have hos : s2.os = s.os := by rw [hs2]
    cases fl with
    | brk => obtain ⟨_, _, _, z⟩ := h3; exact z.elim
    | cont => obtain ⟨_, _, _, z⟩ := h3; exact z.elim
    | next =>
      obtain ⟨σ2, H2, J, z⟩ := h3
      exact ⟨.non, H2, J.os.trans hos, J.bare, un.trans J.base, J.hok, rfl, z⟩
    | ret y =>
      obtain ⟨v2, σ2, H2, J, rv2, z⟩ := h3
      exact ⟨v2, H2, J.os.trans hos, J.bare, un.trans J.base, J.hok, rv2, z⟩
  · exact h
theorem okV_of {k : Nat} {x pa pv : Str} {st : Stmt} {N : List Str} {sp : Sp} (D : DefV K mg x st pa pv) (S : FnScope N [pa, pv] (defScope st))
    (body : ∀ (f : Addr) (cdv : Value) (A : Around) (fr : List Env) (s : Shared) (H : Hp) (vs : List V) (Q : VK) (E : XK), A.guards = some [] →
      Room k (A.deeper (envOfC x (defScope st) s.heap.objs.size f cdv)) → sp vs H Q E →
      ∃ t, PSs (cxOf CX0 P w K mg base N x (defScope st) f cdv A fr s H E).nox (defBody st) t ∧ t { nx := fun _ H' => Q .non H', rt := Q } (start N vs) H) :
    OkV P w K mg base CX0 (k + 1) x sp := by
  obtain ⟨f, fd, F, m, b⟩ := D.ex
  refine ⟨f, m, F.kp, gfnV_of F S b fun cdv A fr s H vs Q E hG hr h => ?_⟩
  obtain ⟨t, h1, h2⟩ := body f cdv A fr s H vs Q E hG hr h
  exact ⟨t, h1.nox, h2⟩
end
section
variable {X : Cx} {CX : CXT} {k : Nat} {sp : Sp} {E : XK} {x : Str} {p pos : Pos} {e : Expr} {es : List Expr} {t : TA}
theorem run_gV {f : Addr} {pins : List (Addr × Obj)} {σ : L2.St} {H : Hp} {s : Shared} {Q : VK} {us : List Value} {vs : List V} (F : GFnV X.prog X.w X.K X.mg X.base CX k f sp) (hG : X.A.guards = some []) (hr : Room k X.A)
    (hx : Passes CX X E) (I : Inv X pins σ H s) (r : Vals vs us) (h : starSp sp vs H Q E) : wpAny (model X.prog X.w) X.A (call (.ref f) us) (EP X pins σ Q) X.xe s := by
  refine wpAny_call (codeAny_mono (F.run X.A X.stack s H us vs Q E hG hr I.env0 r h) ?_)
  intro res s2 h2
  match res, h2 with
  | .error e, h2 => exact hx pins σ H s e s2 I h2
  | .ok (.ret u), h2 => exact I.after h2
  | .ok .next, h2 => exact h2.elim
  | .ok .brk, h2 => exact h2.elim
  | .ok .cont, h2 => exact h2.elim
theorem pe_callV (F : OkV X.prog X.w X.K X.mg X.base CX k x sp) (hG : X.A.guards = some []) (hr : Room k X.A) (hg : Gl X x) (hx : Passes CX X E) (ha : PA X (e :: es) t)
    (hdb : (x == ("__debug__" : Str)) = false := by decide) (he : starEach (e :: es) X.env = (false, eval e X.env) :: starEach es X.env := by rfl) (hpl : (backTo pos (starEach es X.env)).any (·.1) = false := by rfl) :
    PE X (.Call (.Name x p) (e :: es) [] pos) (tCall (starSp sp) [] E t) := by
  obtain ⟨f, m, kp, G⟩ := F.ex
  refine ⟨fun pins s σ H Q I h => wpAny_Call_Name_kw (ld_glob I hg m ?_ hdb)⟩
  refine PySem.W.callWith_K (h₀ := X.base) I.ok.mod.kin kp (thn (ha.run pos pins s σ H _ I h) ?_) he hpl
  rintro us s1 ⟨vs, H1, I1, r, q⟩
  rw [List.append_nil] at q
  exact ⟨I1.kIn, run_gV G hG hr hx I1 r q⟩
end
theorem w_star {sp : Sp} {v : V} {rest : List V} {H H0 : Hp} {M : List Addr} {W : List (Addr × HO)} {Q : VK} {E : XK} (S : Tr M H0 H W) (l : rest.length ≤ 100) (k : ∀ p G, Tr M H0 G ((p, .tup rest) :: W) → sp [v, .ref p] G Q E) : starSp sp (v :: rest) H Q E :=
  ⟨v, rest, rfl, l, fun p hp => k p _ (S.new hp)⟩
end VB
namespace VB
open PySem PySem.Spec PyProof.Rows L2 Att
def sp6 (p : V → V → V → V → V → V → Hp → VK → Prop) : Sp := fun vs H Q _ => ∃ a b c d e f, vs = [a, b, c, d, e, f] ∧ p a b c d e f H Q
/-! ### a < b <= c < d as a test -/
def tCh3 (r r' r'' : R2) (ta tb tc td : TE) : TT := fun σ H QB => ta σ H fun x H1 => tb σ H1 fun y H2 => r x y H2 fun z H3 => ∃ k, z = .bl k ∧
  (if k = true then tc σ H3 fun u H4 => r' y u H4 fun z' H5 => ∃ k', z' = .bl k' ∧ (if k' = true then td σ H5 fun v H6 => r'' u v H6 fun z'' H7 => ∃ k'', z'' = .bl k'' ∧ QB k'' H7 else QB false H5) else QB false H3)
theorem pt_chain3 {X : Cx} {op op' op'' : CmpOp} {r r' r'' : R2} {a b c d : Expr} {ta tb tc td : TE} {pos : Pos} (ho : OpR X (compareOp op) r) (ho' : OpR X (compareOp op') r') (ho'' : OpR X (compareOp op'') r'') (ha : PE X a ta) (hb : PE X b tb) (hc : PE X c tc) (hd : PE X d td)
    (hm : lastMarks [op, op', op''] [b, c, d] = false := by with_unfolding_all rfl) : PT X (.Compare a [op, op', op''] [b, c, d] pos) (tCh3 r r' r'' ta tb tc td) := by
  constructor
  intro pins s σ H Q I h
  refine isTrue_chain (thn (ha.run pins s σ H _ I h) ?_) hm
  rintro v1 s1 ⟨x, H1, I1, r1, q1⟩
  refine test_link (thn (hb.run pins s1 σ H1 _ I1 q1) ?_)
  rintro v2 s2 ⟨y, H2, I2, r2, q2⟩
  refine thn (ho pins s2 σ H2 x y v1 v2 _ I2 r1 r2 q2) ?_
  rintro _ s3 ⟨_, H3, I3, r3, k, rfl, q3⟩
  cases r3
  refine wpAny_truthy_bool ?_
  cases k with
  | false => exact ite_ff ⟨H3, I3, q3⟩
  | true =>
    refine ite_tt (test_link (thn (hc.run pins s3 σ H3 _ I3 q3) ?_))
    rintro v4 s4 ⟨u, H4, I4, r4, q4⟩
    refine thn (ho' pins s4 σ H4 y u v2 v4 _ I4 r2 r4 q4) ?_
    rintro _ s5 ⟨_, H5, I5, r5, k', rfl, q5⟩
    cases r5
    refine wpAny_truthy_bool ?_
    cases k' with
    | false => exact ite_ff ⟨H5, I5, q5⟩
    | true =>
      refine ite_tt (test_last (thn (hd.run pins s5 σ H5 _ I5 q5) ?_))
      rintro v6 s6 ⟨v, H6, I6, r6, q6⟩
      refine thn (ho'' pins s6 σ H6 u v v4 v6 _ I6 r4 r6 q6) ?_
      rintro _ s7 ⟨_, H7, I7, r7, k'', rfl, q7⟩
      cases r7
      exact wpAny_truthy_bool ⟨H7, I7, q7⟩
theorem w_ch3 {r r' r'' : R2} {ta tb tc td : TE} {σ : L2.St} {H : Hp} {QB : Bool → Hp → Prop} (q : ta σ H fun x H1 => tb σ H1 fun y H2 => r x y H2 fun z H3 => ∃ k, z = .bl k ∧
  (if k = true then tc σ H3 fun u H4 => r' y u H4 fun z' H5 => ∃ k', z' = .bl k' ∧ (if k' = true then td σ H5 fun v H6 => r'' u v H6 fun z'' H7 => ∃ k'', z'' = .bl k'' ∧ QB k'' H7 else QB false H5) else QB false H3)) : tCh3 r r' r'' ta tb tc td σ H QB := q
/-! ### ints or nothing, compared -/
theorem w_neOpt {K : PySem.W.Frag} {H : Hp} {Q : VK} {r s : Option Int} (q : Q (.bl (!decide (r = s))) H) : rNeD K (optV r) (optV s) H Q := by
  refine ⟨_, _, dp_opt r, dp_opt s, by cases r <;> rfl, by cases s <;> rfl, ?_⟩
  have e : PyData.eqv (optD r) (optD s) = decide (r = s) := by
    cases r <;> cases s <;> simp [optD, PyData.eqv]
    exact Bool.eq_iff_iff.mpr (by simp)
  rw [e]
  exact q
/-! ### sorted, and a list taken apart -/
theorem cr_sortedK {X : Cx} {K : PySem.W.Frag} (h : X.K = K) : CallR X (.builtin "sorted") (rSorted K) := h ▸ cr_sorted
theorem w_sortL {K : PySem.W.Frag} {M : List Addr} {H0 H : Hp} {W : List (Addr × HO)} {a : Addr} {ns : List Int} {Q : VK} (S : Tr M H0 H W) (h : SqL K H a (ns.map V.int)) (hl : ns.length < 64)
    (k : ∀ (ls : List Int) p G, ls.Perm ns → ls.Pairwise (· ≤ ·) → Tr M H0 G ((p, .lst (ls.map V.int)) :: W) → Q (.ref p) G) : rSorted K [.ref a] H Q := ⟨a, ns, rfl, h, hl, fun ls p h1 h2 hp => k ls p _ h1 h2 (S.new hp)⟩
theorem w_glst {K : PySem.W.Frag} {n : Nat} {g : TGs} {σ : L2.St} {H : Hp} {a : Addr} {xs : List V} {QS : L2.St → Hp → Prop} (h : SqL K H a xs) (hl : xs.length = n) (q : g xs σ H QS) : gLst K n g (.ref a) σ H QS := ⟨a, xs, rfl, h, hl, q⟩
/-! ### chains over overlapping parts -/
section
variable {ns : List Int} {e s f t x : Int} {cs ds : List Int} {n : Int}
theorem FC.nc (hF : Form ns) (h0 : 0 ≤ e) (h : FC ns e s cs) (hs : s < ns.length) : ∃ n, NC ns e s n cs := by
  induction h with
  | one => exact ⟨_, .one⟩
  | @link s cs h hl t ih =>
    have hb := at0_lt hF (i := s) (by omega) hs
    obtain ⟨n, hn⟩ := ih (by omega)
    by_cases q : at0 ns s < s - 1
    · exact ⟨n, .link h q hl hn⟩
    · rw [show at0 ns s = s - 1 by omega] at hn
      exact ⟨_, .step h hn⟩
  | step h hl t ih =>
    obtain ⟨n, hn⟩ := ih (by omega)
    exact ⟨_, .step h hn⟩
theorem FC.jump (h : FC ns e s cs) {v : Int} (h1 : e ≤ v) (h2 : v ≤ s) : v ∈ cs ∨ ∃ c ∈ cs, v < c ∧ at0 ns c < v ∧ at0 ns c ∈ cs := by
  induction h with
  | one => exact .inl (by rw [Int.le_antisymm h2 h1]; simp)
  | @link s cs h hl t ih =>
    by_cases q : v = s
    · exact .inl (by rw [q]; simp)
    · by_cases q2 : at0 ns s < v
      · obtain ⟨r, hr⟩ := t.head
        exact .inr ⟨s, by simp, by omega, q2, by rw [hr]; simp⟩
      · rcases ih (by omega) with k | ⟨c, hc, k⟩
        · exact .inl (List.mem_cons_of_mem _ k)
        · exact .inr ⟨c, List.mem_cons_of_mem _ hc, k.1, k.2.1, List.mem_cons_of_mem _ k.2.2⟩
  | @step s cs h hl t ih =>
    by_cases q : v = s
    · exact .inl (by rw [q]; simp)
    · rcases ih (by omega) with k | ⟨c, hc, k⟩
      · exact .inl (List.mem_cons_of_mem _ k)
      · exact .inr ⟨c, List.mem_cons_of_mem _ hc, k.1, k.2.1, List.mem_cons_of_mem _ k.2.2⟩
/-- two chains over overlapping parts have a common entry -/
theorem FC.meet (hL : Log ns) (h0 : 0 ≤ e) (hc : FC ns e s cs) (hd : FC ns f t ds) (ht : t < ns.length) (h1 : e < f) (h2 : f ≤ s) (h3 : s < t) : ∃ c, c ∈ cs ∧ c ∈ ds := by
  obtain ⟨r, hr⟩ := hc.head
  rcases hd.jump h2 (Int.le_of_lt h3) with k | ⟨d, hdm, k1, k2, k3⟩
  · exact ⟨s, by rw [hr]; simp, k⟩
  · have hb := hd.mem_le hL.form (by omega) ht _ k3
    have hb2 := hd.mem_le hL.form (by omega) ht _ hdm
    rcases hc.jump (v := at0 ns d) (by omega) (by omega) with k | ⟨c, hcm, j1, j2, j3⟩
    · exact ⟨_, k, k3⟩
    · have hb3 := hc.mem_le hL.form h0 (by omega) _ hcm
      refine (hL.nc c.toNat d.toNat ⟨by omega, by omega, at0 ns c, at0 ns d, ?_, ?_, j2, by omega⟩).elim
      · exact at0_get? (by omega) (by omega)
      · exact at0_get? (by omega) (by omega)
/-- each chain contains what the shortest one contains -/
theorem NC.has (hL : Log ns) (h0 : 0 ≤ e) (hc : FC ns e s cs) (hs : s < ns.length) {c : Int} (hcm : c ∈ cs) (h : NC ns e x n ds) : x ≤ s → c ≤ x → c ∈ ds := by
  have hb := hc.mem_le hL.form h0 hs _ hcm
  induction h with
  | one => intro _ h2; rw [Int.le_antisymm h2 hb.1]; simp
  | @link x n cs' h hl he t ih =>
    intro h1 h2
    by_cases q : c = x
    · rw [q]; simp
    · exact List.mem_cons_of_mem _ (ih (by omega) (hc.pass hL h0 hs x c hcm (by omega) h1 he))
  | @step x n cs' h t ih =>
    intro h1 h2
    by_cases q : c = x
    · rw [q]; simp
    · exact List.mem_cons_of_mem _ (ih (by omega) (by omega))
end
end VB
namespace VB
open PySem PySem.Spec PyProof.Rows L2
theorem w_eqII {K : PySem.W.Frag} {H : Hp} {Q : VK} {i j : Int} (q : Q (.bl (decide (i = j))) H) : rEqD K (.int i) (.int j) H Q := by
  refine ⟨_, _, .int i, .int j, rfl, rfl, ?_⟩
  rw [show PyData.eqv (.int i) (.int j) = decide (i = j) by rw [PyData.eqv]; exact Bool.eq_iff_iff.mpr (by simp)]
  exact q
theorem pi_listK {X : Cx} {K : PySem.W.Frag} {tg l : Expr} {tl : TE} (h : X.K = K) (hl : PE X l tl) : PI X tg l (iList K tl) := h ▸ pi_list hl
theorem pi_tupK {X : Cx} {K : PySem.W.Frag} {tg l : Expr} {tl : TE} (h : X.K = K) (hl : PE X l tl) : PI X tg l (iTup K tl) := h ▸ pi_tup hl
theorem pi_seqK {X : Cx} {K : PySem.W.Frag} {tg l : Expr} {i : Nat} (h : X.K = K) (hl : PE X l (tVar i)) : PI X tg l (iSeqV K i) := h ▸ pi_seqV hl
theorem small_of {cs : List Int} {r : Option Int} {n : Nat} (h : MaxO cs r) (hb : ∀ c ∈ cs, 0 ≤ c ∧ c ≤ n) (hn : n < 10 ^ 12) : OptS r := by
  intro m hm
  subst hm
  have := hb m h.1
  omega
theorem w_repr2 {K : PySem.W.Frag} {H : Hp} {a : Addr} {r s : Option Int} {Q : VK} (h : SqL K H a [optV r, optV s]) (hr : OptS r) (hs : OptS s) (q : Q (.str (PyData.shown (.list [optD r, optD s]))) H) : rRepr K [.ref a] H Q := by
  refine ⟨_, _, rfl, .lst h (.cons (dp_opt r) (.cons (dp_opt s) .nil)), ?_, q⟩
  have hw : ∀ t : Option Int, OptS t → (optD t).weight ≤ 200 ∧ (optD t).showable = true ∧ PyData.intsShort 13 (optD t) = true := by
    intro t ht
    cases t with
    | none => exact ⟨by decide, by decide, by decide⟩
    | some m =>
      have h1 := ht m rfl
      refine ⟨?_, ?_, ?_⟩
      · have h2 := weight_ints [m] (by intro n hn; rw [List.mem_singleton] at hn; rw [hn]; exact h1)
        simp only [List.map_cons, List.map_nil, PyData.weightAll, List.length_cons, List.length_nil] at h2
        show (PyData.int m).weight ≤ 200
        omega
      · have h2 := showable_ints [m] (by intro n hn; rw [List.mem_singleton] at hn; rw [hn]; exact h1)
        show (PyData.int m).showable = true
        simpa [PyData.showableAll] using h2
      · have h2 := PyData.intsShortAll_ints [m] (by intro n hn; rw [List.mem_singleton] at hn; rw [hn]; exact h1)
        show PyData.intsShort 13 (PyData.int m) = true
        simpa [PyData.intsShortAll] using h2
  obtain ⟨w1, s1, i1⟩ := hw r hr
  obtain ⟨w2, s2, i2⟩ := hw s hs
  refine shown_of ?_ ?_ ?_ ?_ ?_
  · rw [PyData.canLay0]; exact lay_opts [r, s]
  · rw [PyData.depth]; rw [show [optD r, optD s] = [r, s].map optD from rfl, dep_opts]; decide
  · rw [PyData.showable, PyData.showableAll, PyData.showableAll, s1, s2]; rfl
  · rw [PyData.intsShort, PyData.intsShortAll, PyData.intsShortAll, i1, i2]; rfl
  · rw [PyData.weight, PyData.weightAll, PyData.weightAll, PyData.weightAll]; omega
theorem lays_lists : ∀ css : List (List Int), PyData.canLayAll0 (css.map fun cs => PyData.list (cs.map PyData.int)) = true
  | [] => rfl
  | cs :: css => by rw [List.map_cons, PyData.canLayAll0, lays_lists css, PyData.canLay0, canLay_ints]; rfl
theorem deps_lists : ∀ css : List (List Int), PyData.depthAll (css.map fun cs => PyData.list (cs.map PyData.int)) ≤ 1
  | [] => by rw [List.map_nil, PyData.depthAll]; omega
  | cs :: css => by
    have := deps_lists css
    rw [List.map_cons, PyData.depthAll, PyData.depth, depth_ints]
    omega
theorem dps_lists {K : PySem.W.Frag} {H : Hp} : ∀ pcs : List (Addr × List Int), (∀ e ∈ pcs, SqL K H e.1 (e.2.map V.int)) → DpAll K H (pcs.map fun e => V.ref e.1) ((pcs.map (·.2)).map fun cs => PyData.list (cs.map PyData.int))
  | [], _ => .nil
  | e :: pcs, h => .cons (dp_ints (h e (List.mem_cons_self ..))) (dps_lists pcs fun e he => h e (List.mem_cons_of_mem _ he))
/-- a list of lists of ints against the empty list -/
theorem w_eqNo {K : PySem.W.Frag} {H : Hp} {Q : VK} {a b : Addr} {pcs : List (Addr × List Int)} (h : SqL K H a (pcs.map fun e => V.ref e.1)) (hp : ∀ e ∈ pcs, SqL K H e.1 (e.2.map V.int)) (hb : SqL K H b []) (q : Q (.bl (decide (pcs = []))) H) : rEqD K (.ref a) (.ref b) H Q := by
  refine ⟨_, _, .lst h (dps_lists pcs hp), .lst hb .nil, ?_, by decide, ?_⟩
  · unfold SeqAt.shaped
    have := deps_lists (pcs.map (·.2))
    rw [PyData.canLay0, lays_lists, PyData.depth, Bool.true_and, decide_eq_true_eq]
    omega
  · cases pcs with
    | nil => simpa [PyData.eqv, PyData.eqvAll] using q
    | cons e t => simpa [PyData.eqv, PyData.eqvAll] using q
theorem Tr.mem {M : List Addr} {H0 H : Hp} {W : List (Addr × HO)} {a : Addr} {o : HO} (S : Tr M H0 H W) (h : (a, o) ∈ W) : H a = some o := by
  obtain ⟨i, hi⟩ := List.mem_iff_getElem?.mp h
  exact S.get i hi
theorem w_repL {M : List Addr} {H0 H : Hp} {W : List (Addr × HO)} {a : Addr} {xs : List V} {k : Int} {Q : VK} (S : Tr M H0 H W) (h : H a = some (.lst xs)) (h1 : 0 ≤ k) (h2 : k < 100000) (l : xs.length * k.toNat ≤ 100000)
    (q : ∀ p G, Tr M H0 G ((p, .lst (List.replicate k.toNat xs).flatten) :: W) → Q (.ref p) G) : rRep (.ref a) (.int k) H Q :=
  ⟨a, k, xs, rfl, rfl, h, by omega, by omega, sz l, fun p hp => q p _ (S.new hp)⟩
theorem MaxO.top {ls : List Int} {r : Option Int} {m : Int} (hr : MaxO ls r) (h1 : m ∈ ls) (h2 : ∀ c ∈ ls, c ≤ m) : r = some m := MaxO.same hr (b := some m) ⟨h1, h2⟩
theorem MaxO.no {ls : List Int} {r : Option Int} (hr : MaxO ls r) (h : ∀ c, ¬ c ∈ ls) : r = none := MaxO.same hr (b := none) (List.eq_nil_iff_forall_not_mem.mpr h)
/-- the greatest does not depend on the list, but on what it holds -/
theorem MaxO.ext {ls ms : List Int} {r : Option Int} (hr : MaxO ls r) (h : ∀ c, c ∈ ms ↔ c ∈ ls) : MaxO ms r := by
  cases r with
  | none =>
    refine List.eq_nil_iff_forall_not_mem.mpr fun c hc => ?_
    have := (h c).mp hc
    rw [show ls = [] from hr] at this
    exact List.not_mem_nil this
  | some m => exact ⟨(h m).mpr hr.1, fun y hy => hr.2 y ((h y).mp hy)⟩
/-! ### a list of ints beside a list of such lists -/
theorem shows_lists : ∀ css : List (List Int), (∀ cs ∈ css, ∀ n ∈ cs, n.natAbs < 10 ^ 12) → PyData.showableAll (css.map fun cs => PyData.list (cs.map PyData.int)) = true
  | [], _ => rfl
  | cs :: css, h => by rw [List.map_cons, PyData.showableAll, shows_lists css fun c hc => h c (List.mem_cons_of_mem _ hc), PyData.showable, showable_ints cs (h cs (List.mem_cons_self ..))]; rfl
theorem short_lists : ∀ css : List (List Int), (∀ cs ∈ css, ∀ n ∈ cs, n.natAbs < 10 ^ 12) → PyData.intsShortAll 13 (css.map fun cs => PyData.list (cs.map PyData.int)) = true
  | [], _ => rfl
  | cs :: css, h => by rw [List.map_cons, PyData.intsShortAll, short_lists css fun c hc => h c (List.mem_cons_of_mem _ hc), PyData.intsShort, PyData.intsShortAll_ints cs (h cs (List.mem_cons_self ..))]; rfl
theorem weight_lists : ∀ css : List (List Int), (∀ cs ∈ css, (∀ n ∈ cs, n.natAbs < 10 ^ 12) ∧ cs.length ≤ 200) → PyData.weightAll (css.map fun cs => PyData.list (cs.map PyData.int)) ≤ 9000 * css.length
  | [], _ => by
    rw [List.map_nil, PyData.weightAll]
    exact Nat.zero_le _
  | cs :: css, h => by
    have h1 := weight_lists css fun c hc => h c (List.mem_cons_of_mem _ hc)
    have h2 := weight_ints cs (h cs (List.mem_cons_self ..)).1
    have h3 := (h cs (List.mem_cons_self ..)).2
    rw [List.map_cons, PyData.weightAll, PyData.weight, List.length_cons]
    omega
def LLD (ns : List Int) (css : List (List Int)) : PyData := .list [.list (ns.map PyData.int), .list (css.map fun cs => PyData.list (cs.map PyData.int))]
theorem lld_lay (ns : List Int) (css : List (List Int)) : (LLD ns css).canLay0 = true := by
  have h1 : (PyData.list (ns.map PyData.int)).canLay0 = true := by rw [PyData.canLay0]; exact canLay_ints ns
  have h2 : (PyData.list (css.map fun cs => PyData.list (cs.map PyData.int))).canLay0 = true := by rw [PyData.canLay0]; exact lays_lists css
  unfold LLD
  generalize PyData.list (ns.map PyData.int) = d1 at *
  generalize PyData.list (css.map fun cs => PyData.list (cs.map PyData.int)) = d2 at *
  rw [PyData.canLay0, PyData.canLayAll0, PyData.canLayAll0, h1, h2]
  rfl
theorem lld_dep (ns : List Int) (css : List (List Int)) : (LLD ns css).depth ≤ 40 := by
  have h1 : (PyData.list (ns.map PyData.int)).depth ≤ 1 := by rw [PyData.depth, depth_ints]; exact Nat.le_refl _
  have h2 : (PyData.list (css.map fun cs => PyData.list (cs.map PyData.int))).depth ≤ 2 := by
    have := deps_lists css
    rw [PyData.depth]
    omega
  unfold LLD
  generalize PyData.list (ns.map PyData.int) = d1 at *
  generalize PyData.list (css.map fun cs => PyData.list (cs.map PyData.int)) = d2 at *
  rw [PyData.depth, PyData.depthAll, PyData.depthAll, PyData.depthAll]
  omega
theorem lld_shown {ns : List Int} {css : List (List Int)} (s1 : ∀ n ∈ ns, n.natAbs < 10 ^ 12) (l1 : ns.length ≤ 200) (s2 : ∀ cs ∈ css, (∀ n ∈ cs, n.natAbs < 10 ^ 12) ∧ cs.length ≤ 200) (l2 : css.length ≤ 20) : Shown (LLD ns css) := by
  have t3 : ∀ cs ∈ css, ∀ n ∈ cs, n.natAbs < 10 ^ 12 := fun cs hc => (s2 cs hc).1
  have a1 : (PyData.list (ns.map PyData.int)).showable = true := by rw [PyData.showable]; exact showable_ints ns s1
  have a2 : (PyData.list (css.map fun cs => PyData.list (cs.map PyData.int))).showable = true := by rw [PyData.showable]; exact shows_lists css t3
  have b1 : PyData.intsShort 13 (PyData.list (ns.map PyData.int)) = true := by rw [PyData.intsShort]; exact PyData.intsShortAll_ints ns s1
  have b2 : PyData.intsShort 13 (PyData.list (css.map fun cs => PyData.list (cs.map PyData.int))) = true := by rw [PyData.intsShort]; exact short_lists css t3
  have w1 : (PyData.list (ns.map PyData.int)).weight ≤ 9000 := by
    have := weight_ints ns s1
    rw [PyData.weight]
    omega
  have w2 : (PyData.list (css.map fun cs => PyData.list (cs.map PyData.int))).weight ≤ 190000 := by
    have := weight_lists css s2
    rw [PyData.weight]
    omega
  refine shown_of (lld_lay ns css) (lld_dep ns css) ?_ ?_ ?_
  all_goals unfold LLD
  all_goals generalize PyData.list (ns.map PyData.int) = d1 at *
  all_goals generalize PyData.list (css.map fun cs => PyData.list (cs.map PyData.int)) = d2 at *
  · rw [PyData.showable, PyData.showableAll, PyData.showableAll, a1, a2]
    rfl
  · rw [PyData.intsShort, PyData.intsShortAll, PyData.intsShortAll, b1, b2]
    rfl
  · rw [PyData.weight, PyData.weightAll, PyData.weightAll, PyData.weightAll]
    omega
theorem w_reprLL {K : PySem.W.Frag} {H : Hp} {p a b : Addr} {ns : List Int} {pcs : List (Addr × List Int)} {Q : VK} (h : SqL K H p [.ref a, .ref b]) (ha : SqL K H a (ns.map V.int)) (hb : SqL K H b (pcs.map fun e => V.ref e.1)) (hp : ∀ e ∈ pcs, SqL K H e.1 (e.2.map V.int))
    (sh : Shown (LLD ns (pcs.map (·.2)))) (q : Q (.str (PyData.shown (LLD ns (pcs.map (·.2))))) H) : rRepr K [.ref p] H Q := by
  have d2 : Dp K H (.ref b) (.list ((pcs.map (·.2)).map fun cs => PyData.list (cs.map PyData.int))) := .lst hb (dps_lists pcs hp)
  have d : Dp K H (.ref p) (LLD ns (pcs.map (·.2))) := .lst h (.cons (dp_ints ha) (.cons d2 .nil))
  exact ⟨_, _, rfl, d, sh, q⟩
/-! ### all chains in ascending order -/
def ev (ns : List Int) (e : Int) (x : Int) : List (List Int) :=
  if h : e < x then (if h2 : at0 ns x < x - 1 ∧ e ≤ at0 ns x then (ev ns e (at0 ns x)).map (x :: ·) else []) ++ (ev ns e (x - 1)).map (x :: ·) else [[e]]
termination_by (x - e).toNat
decreasing_by all_goals omega
theorem ev_end (ns : List Int) (e : Int) : ev ns e e = [[e]] := by rw [ev, dif_neg (by omega)]
theorem ev_step {ns : List Int} {e x : Int} (h : e < x) : ev ns e x = (if at0 ns x < x - 1 ∧ e ≤ at0 ns x then (ev ns e (at0 ns x)).map (x :: ·) else []) ++ (ev ns e (x - 1)).map (x :: ·) := by
  rw [ev, dif_pos h]
  by_cases q : at0 ns x < x - 1 ∧ e ≤ at0 ns x
  · rw [dif_pos q, if_pos q]
  · rw [dif_neg q, if_neg q]
theorem ev_len (ns : List Int) (e : Int) : ∀ (n : Nat) (x : Int), (x - e).toNat = n → ((ev ns e x).length : Int) = cn ns e x := by
  intro n
  induction n using Nat.strongRecOn with
  | ind n ih =>
    intro x hx
    by_cases h : e < x
    · rw [ev_step h, List.length_append, List.length_map]
      have h1 := ih (x - 1 - e).toNat (by omega) (x - 1) rfl
      by_cases q : at0 ns x < x - 1 ∧ e ≤ at0 ns x
      · have h2 := ih (at0 ns x - e).toNat (by omega) (at0 ns x) rfl
        rw [if_pos q, List.length_map, cn_link h q.1 q.2]
        omega
      · rw [if_neg q, cn_step h q, List.length_nil]
        omega
    · rw [ev, dif_neg h, cn, dif_neg h]
      rfl
theorem ev_get {ns : List Int} {e : Int} : ∀ (n : Nat) (x : Int), (x - e).toNat = n → e ≤ x → ∀ (i : Nat) (cs : List Int), (ev ns e x)[i]? = some cs → NC ns e x i cs := by
  intro n
  induction n using Nat.strongRecOn with
  | ind n ih =>
    intro x hx hex i cs hi
    by_cases h : e < x
    · rw [ev_step h] at hi
      by_cases q : at0 ns x < x - 1 ∧ e ≤ at0 ns x
      · rw [if_pos q] at hi
        have hl := ev_len ns e _ (at0 ns x) rfl
        by_cases k : i < (ev ns e (at0 ns x)).length
        · rw [List.getElem?_append_left (by rw [List.length_map]; exact k), List.getElem?_map] at hi
          obtain ⟨ds, hd, rfl⟩ := Option.map_eq_some_iff.mp hi
          exact .link h q.1 q.2 (ih _ (by omega) (at0 ns x) rfl q.2 i ds hd)
        · rw [List.getElem?_append_right (by rw [List.length_map]; omega), List.length_map, List.getElem?_map] at hi
          obtain ⟨ds, hd, rfl⟩ := Option.map_eq_some_iff.mp hi
          have := NC.step h (ih _ (by omega) (x - 1) rfl (by omega) _ ds hd)
          rw [bl, if_pos q, ← hl] at this
          rw [show (i : Int) = ((ev ns e (at0 ns x)).length : Int) + ((i - (ev ns e (at0 ns x)).length : Nat) : Int) by omega]
          exact this
      · rw [if_neg q, List.nil_append, List.getElem?_map] at hi
        obtain ⟨ds, hd, rfl⟩ := Option.map_eq_some_iff.mp hi
        have := NC.step h (ih _ (by omega) (x - 1) rfl (by omega) _ ds hd)
        rw [bl, if_neg q, Int.zero_add] at this
        exact this
    · obtain rfl : x = e := by omega
      rw [ev_end] at hi
      cases i with
      | zero =>
        cases hi
        exact .one
      | succ i => simp at hi
/-- the n-th chain stands at its place -/
theorem NC.ev {ns : List Int} {e x n : Int} {cs : List Int} (h : NC ns e x n cs) : (ev ns e x)[n.toNat]? = some cs := by
  have hr := h.range
  have hl := ev_len ns e _ x rfl
  obtain ⟨ds, hd⟩ : ∃ ds, (VB.ev ns e x)[n.toNat]? = some ds := ⟨_, List.getElem?_eq_getElem (by omega)⟩
  have := ev_get _ x rfl hr.2.2 _ ds hd
  rw [show ((n.toNat : Nat) : Int) = n by omega] at this
  rw [hd, h.uniq this]
theorem w_ext {M : List Addr} {H0 H : Hp} {W : List (Addr × HO)} {p b : Addr} {xs zs : List V} {Q : VK} (S : Tr M H0 H W) (m : Nat) (h : W[m]? = some (p, .lst xs)) (hb : H b = some (.lst zs)) (l : xs.length + zs.length ≤ 100000)
    (k : ∀ H', Tr M H0 H' (W.set m (p, .lst (xs ++ zs))) → Q .non H') : rExtend (.ref p) [.ref b] H Q := ⟨p, b, xs, zs, rfl, rfl, S.get m h, hb, sz l, k _ (S.putN m h)⟩
/-- the targets of a step -/
theorem next_is {ns : List Int} {s e : Int} {ls : List Int} (h1 : ∀ t, t ∈ ls ↔ (t = at0 ns s ∨ t = s - 1) ∧ e ≤ t) (h2 : ls.Pairwise (· < ·)) (he : e < s) (hb : at0 ns s < s) : ls = if at0 ns s < s - 1 ∧ e ≤ at0 ns s then [at0 ns s, s - 1] else [s - 1] := by
  refine asc_ext h2 ?_ fun t => ?_
  · split
    · rename_i q
      simp only [List.pairwise_cons, List.mem_singleton, List.not_mem_nil, false_imp_iff, implies_true, List.Pairwise.nil, and_true, forall_eq]
      exact q.1
    · simp
  · rw [h1]
    split
    · rename_i q
      simp only [List.mem_cons, List.not_mem_nil, or_false]
      constructor
      · exact fun h => h.1
      · rintro (h | h)
        · exact ⟨.inl h, by omega⟩
        · exact ⟨.inr h, by omega⟩
    · rename_i q
      simp only [List.mem_singleton]
      constructor
      · rintro ⟨h | h, k⟩
        · by_cases j : at0 ns s < s - 1
          · exact (q ⟨j, by omega⟩).elim
          · omega
        · exact h
      · intro h
        exact ⟨.inr h, by omega⟩
theorem ev_next {ns : List Int} {s e : Int} {ls : List Int} (h1 : ∀ t, t ∈ ls ↔ (t = at0 ns s ∨ t = s - 1) ∧ e ≤ t) (h2 : ls.Pairwise (· < ·)) (he : e < s) (hb : at0 ns s < s) : (ls.flatMap fun l => (ev ns e l).map (s :: ·)) = ev ns e s := by
  rw [next_is h1 h2 he hb, ev_step he]
  split
  · simp
  · simp
theorem flatMap_snoc {α β : Type} (f : α → List β) (xs : List α) (x : α) : (xs ++ [x]).flatMap f = xs.flatMap f ++ f x := by simp
theorem w_neNo {K : PySem.W.Frag} {H : Hp} {Q : VK} {a b : Addr} {pcs : List (Addr × List Int)} (h : SqL K H a (pcs.map fun e => V.ref e.1)) (hp : ∀ e ∈ pcs, SqL K H e.1 (e.2.map V.int)) (hb : SqL K H b []) (q : Q (.bl (!decide (pcs = []))) H) : rNeD K (.ref a) (.ref b) H Q := by
  refine ⟨_, _, .lst h (dps_lists pcs hp), .lst hb .nil, ?_, by decide, ?_⟩
  · unfold SeqAt.shaped
    have := deps_lists (pcs.map (·.2))
    rw [PyData.canLay0, lays_lists, PyData.depth, Bool.true_and, decide_eq_true_eq]
    omega
  · cases pcs with
    | nil => simpa [PyData.eqv, PyData.eqvAll] using q
    | cons e t => simpa [PyData.eqv, PyData.eqvAll] using q
theorem cut_end {xs : List V} {v : V} : cutV (xs ++ [v]) (some (-1)) none = [v] := by
  have e : HT.sIx (xs ++ [v]).length 0 (some (-1)) = xs.length := by
    have hl : (xs ++ [v]).length = xs.length + 1 := by simp
    rw [hl]
    show (if (-1 : Int) < 0 then ((-1 : Int) + ((xs.length + 1 : Nat) : Int)).toNat else min (-1 : Int).toNat (xs.length + 1)) = xs.length
    rw [if_pos (by decide)]
    omega
  rw [cutV, e, HT.sIx_none, List.drop_left', List.length_append]
  · simp
  · rfl
/-! ### a tuple of two lists of ints -/
def TLD (ns ms : List Int) : PyData := .tuple [.list (ns.map PyData.int), .list (ms.map PyData.int)]
theorem tld_lay (ns ms : List Int) : (TLD ns ms).canLay0 = true := by
  have h1 : (PyData.list (ns.map PyData.int)).canLay0 = true := by rw [PyData.canLay0]; exact canLay_ints ns
  have h2 : (PyData.list (ms.map PyData.int)).canLay0 = true := by rw [PyData.canLay0]; exact canLay_ints ms
  unfold TLD
  generalize PyData.list (ns.map PyData.int) = d1 at *
  generalize PyData.list (ms.map PyData.int) = d2 at *
  rw [PyData.canLay0, PyData.canLayAll0, PyData.canLayAll0, h1, h2]
  rfl
theorem tld_dep (ns ms : List Int) : (TLD ns ms).depth ≤ 2 := by
  have h1 : (PyData.list (ns.map PyData.int)).depth ≤ 1 := by rw [PyData.depth, depth_ints]; exact Nat.le_refl _
  have h2 : (PyData.list (ms.map PyData.int)).depth ≤ 1 := by rw [PyData.depth, depth_ints]; exact Nat.le_refl _
  unfold TLD
  generalize PyData.list (ns.map PyData.int) = d1 at *
  generalize PyData.list (ms.map PyData.int) = d2 at *
  rw [PyData.depth, PyData.depthAll, PyData.depthAll, PyData.depthAll]
  omega
theorem tld_shown {ns ms : List Int} (s1 : ∀ n ∈ ns, n.natAbs < 10 ^ 12) (l1 : ns.length ≤ 200) (s2 : ∀ n ∈ ms, n.natAbs < 10 ^ 12) (l2 : ms.length ≤ 200) : Shown (TLD ns ms) := by
  have a1 : (PyData.list (ns.map PyData.int)).showable = true := by rw [PyData.showable]; exact showable_ints ns s1
  have a2 : (PyData.list (ms.map PyData.int)).showable = true := by rw [PyData.showable]; exact showable_ints ms s2
  have b1 : PyData.intsShort 13 (PyData.list (ns.map PyData.int)) = true := by rw [PyData.intsShort]; exact PyData.intsShortAll_ints ns s1
  have b2 : PyData.intsShort 13 (PyData.list (ms.map PyData.int)) = true := by rw [PyData.intsShort]; exact PyData.intsShortAll_ints ms s2
  have w1 : (PyData.list (ns.map PyData.int)).weight ≤ 9000 := by
    have := weight_ints ns s1
    rw [PyData.weight]
    omega
  have w2 : (PyData.list (ms.map PyData.int)).weight ≤ 9000 := by
    have := weight_ints ms s2
    rw [PyData.weight]
    omega
  refine shown_of (tld_lay ns ms) (Nat.le_trans (tld_dep ns ms) (by decide)) ?_ ?_ ?_
  all_goals unfold TLD
  all_goals generalize PyData.list (ns.map PyData.int) = d1 at *
  all_goals generalize PyData.list (ms.map PyData.int) = d2 at *
  · rw [PyData.showable, PyData.showableAll, PyData.showableAll, a1, a2]
    rfl
  · rw [PyData.intsShort, PyData.intsShortAll, PyData.intsShortAll, b1, b2]
    rfl
  · rw [PyData.weight, PyData.weightAll, PyData.weightAll, PyData.weightAll]
    omega
theorem dp_tld {K : PySem.W.Frag} {H : Hp} {p a b : Addr} {ns ms : List Int} (h : SqT K H p [.ref a, .ref b]) (ha : SqL K H a (ns.map V.int)) (hb : SqL K H b (ms.map V.int)) : Dp K H (.ref p) (TLD ns ms) := .tup h (.cons (dp_ints ha) (.cons (dp_ints hb) .nil))
theorem w_reprT2 {K : PySem.W.Frag} {H : Hp} {p a b : Addr} {ns ms : List Int} {Q : VK} (h : SqT K H p [.ref a, .ref b]) (ha : SqL K H a (ns.map V.int)) (hb : SqL K H b (ms.map V.int)) (sh : Shown (TLD ns ms)) (q : Q (.str (PyData.shown (TLD ns ms))) H) : rRepr K [.ref p] H Q :=
  ⟨_, _, rfl, dp_tld h ha hb, sh, q⟩
theorem w_eqT2 {K : PySem.W.Frag} {H : Hp} {p a b p' a' b' : Addr} {ns ms ns' ms' : List Int} {Q : VK} (h : SqT K H p [.ref a, .ref b]) (ha : SqL K H a (ns.map V.int)) (hb : SqL K H b (ms.map V.int)) (h' : SqT K H p' [.ref a', .ref b']) (ha' : SqL K H a' (ns'.map V.int)) (hb' : SqL K H b' (ms'.map V.int))
    (e1 : ns = ns') (e2 : ms = ms') (q : Q (.bl true) H) : rEqD K (.ref p) (.ref p') H Q := by
  have sh : SeqAt.shaped (TLD ns ms) = true := by
    have := tld_dep ns ms
    unfold SeqAt.shaped
    rw [tld_lay, Bool.true_and, decide_eq_true_eq]
    omega
  subst e1
  subst e2
  exact w_eqSame (dp_tld h ha hb) (dp_tld h' ha' hb') sh q
end VB

namespace VB
open PySem PySem.Spec PyProof.Rows L2 Srt SrtO
/-! ### sorted(xs) of a list of lists of ints -/
theorem lt_first : ∀ xs ys : List Int, SeqAt.firstLt (fun j => xs.getD j 0 == ys.getD j 0) (fun j => decide (xs.getD j 0 < ys.getD j 0)) (decide (xs.length < ys.length)) (List.range (min xs.length ys.length)) = HT.lexLt xs ys
  | [], [] => rfl
  | [], y :: ys => by simp [SeqAt.firstLt, HT.lexLt]
  | x :: xs, [] => by simp [SeqAt.firstLt, HT.lexLt]
  | x :: xs, y :: ys => by
    have ih := lt_first xs ys
    have e1 : min (x :: xs).length (y :: ys).length = min xs.length ys.length + 1 := by simp
    rw [e1, List.range_succ_eq_map]
    unfold SeqAt.firstLt
    rw [firstLt_succ, HT.lexLt_cons, ← ih]
    simp
/-- v is a list of these ints -/
def IsLs (h : Heap) (v : Value) (ns : List Int) : Prop := ∃ (a : Addr) (us : List Value), v = .ref a ∧ h.IsList a us.toArray ∧ IntsAre us ns
theorem IsLs.keeps {h h' : Heap} {v : Value} {ns : List Int} (x : IsLs h v ns) (k : ∀ b o, v = .ref b → h.get? b = some o → h'.get? b = some o) : IsLs h' v ns := by
  obtain ⟨a, us, e, ⟨o, g, r⟩, i⟩ := x
  exact ⟨a, us, e, ⟨o, k a o e g, r⟩, i⟩
section
variable {prog : Program} {w : World} {A : Around} {E : Value → Shared → Prop} {s : Shared}
theorem lt_ls {v u : Value} {ns ms : List Int} {Q : Bool → Shared → Prop} (hu : A.units < cLine) (hv : IsLs s.heap v ns) (hw : IsLs s.heap u ms) (h : Q (HT.lexLt ns ms) s) : wpAny (model prog w) A (keyLt' oneType' v u) Q E s := by
  obtain ⟨a, us, rfl, p1, i1⟩ := hv
  obtain ⟨b, ws, rfl, p2, i2⟩ := hw
  have e1 : us.toArray.size = ns.length := by rw [List.size_toArray]; exact i1.length
  have e2 : ws.toArray.size = ms.length := by rw [List.size_toArray]; exact i2.length
  have g1 : ∀ j (h1 : j < us.toArray.size), ∃ t, us.toArray[j] = .int (ns.getD j 0) t := fun j h1 => i1.int_at _ _ (by simp at h1; simp [h1])
  have g2 : ∀ j (h1 : j < ws.toArray.size), ∃ t, ws.toArray[j] = .int (ms.getD j 0) t := fun j h1 => i2.int_at _ _ (by simp at h1; simp [h1])
  have ty : s.TypeIs (.ref a) "list" := by
    obtain ⟨o, q1, q2, _⟩ := p1
    exact ⟨o, q1, q2⟩
  rw [keyLt'_oneType (.ref a), oneLt'_eq]
  simp only [if_true]
  refine wpAny_bind (wpAny_cRoomFor hu ?_)
  refine wpAny_bind (wpAny_callSpecialIfBound?_slot ty F.slot_list_lt (SeqAt.call_list_lt (e := fun j => ns.getD j 0 == ms.getD j 0) (r := fun j => decide (ns.getD j 0 < ms.getD j 0)) p1 p2 (fun j h1 h2 => ?_) (fun j h1 h2 _ => ?_) ?_))
  · obtain ⟨t, f1⟩ := g1 j h1
    obtain ⟨t', f2⟩ := g2 j h2
    rw [f1, f2]
    exact SeqAt.EqAt.int_int _ _ _ _
  · obtain ⟨t, f1⟩ := g1 j h1
    obtain ⟨t', f2⟩ := g2 j h2
    rw [f1, f2]
    exact fun _ _ _ _ h => PyProof.Rows.lt_int h
  · rw [e1, e2, lt_first]
    exact wpAny_truthy_bool h
theorem ls_sortable {a : Addr} {vs : List Value} {k : Value → List Int} (h2 : 2 ≤ vs.length) (hu : A.units < cLine) (hv : ∀ h' : Heap, (∀ b o, b ≠ a → s.heap.get? b = some o → h'.get? b = some o) → ∀ v ∈ vs, IsLs h' v (k v)) :
    SortableO prog w A s a vs fun v u => HT.lexLt (k v) (k u) := by
  intro h' keep
  have hv' := hv h' keep
  refine ⟨oneType', fun Q E hq => ?_, fun p q hp hq => lt_ls (s := { s with heap := h' }) hu (hv' _ hp) (hv' _ hq) ⟨rfl, rfl⟩⟩
  refine PySem.W.kas_kind (s := { s with heap := h' }) (T := .type "list") h2 (fun v hm => ?_) (by decide +kernel) (by decide +kernel) hq
  obtain ⟨b, us, rfl, ⟨o, g, c, _⟩, _⟩ := hv' v hm
  rw [← c]
  exact (PySem.W.Looks.ld g).andThen .now
end
end VB
namespace VB
open PySem PySem.Spec PyProof.Rows L2
def rSortedLs (K : PySem.W.Frag) : List V → Hp → VK → Prop := fun vs H Q => ∃ (a : Addr) (pcs : List (Addr × List Int)), vs = [V.ref a] ∧ SqL K H a (pcs.map fun e => V.ref e.1) ∧ (∀ e ∈ pcs, SqL K H e.1 (e.2.map V.int)) ∧ (pcs.map (·.1)).Nodup ∧
  ∀ (qcs : List (Addr × List Int)) (p : Addr), qcs.Perm pcs → qcs.Pairwise (fun x y => HT.lexLt y.2 x.2 = false) → H p = none → Q (.ref p) (upd H p (.lst (qcs.map fun e => V.ref e.1)))
theorem by_addr : ∀ {pcs : List (Addr × List Int)}, (pcs.map (·.1)).Nodup → ∃ k : Addr → List Int, ∀ e ∈ pcs, k e.1 = e.2
  | [], _ => ⟨fun _ => [], fun e h => absurd h List.not_mem_nil⟩
  | e :: pcs, h => by
    rw [List.map_cons, List.nodup_cons] at h
    obtain ⟨k, hk⟩ := by_addr h.2
    refine ⟨fun a => if a = e.1 then e.2 else k a, fun x hx => ?_⟩
    rcases List.mem_cons.mp hx with rfl | hx
    · exact if_pos rfl
    · have : x.1 ≠ e.1 := fun z => h.1 (z ▸ List.mem_map.mpr ⟨x, hx, rfl⟩)
      show (if x.1 = e.1 then e.2 else k x.1) = x.2
      rw [if_neg this]
      exact hk x hx
theorem cr_sortedLs {X : Cx} {K : PySem.W.Frag} (hK : X.K = K) (hu : X.A.units + 64 < cLine) : CallR X (.builtin "sorted") (rSortedLs K) := by
  subst hK
  intro pins s σ H vs us Q I r h
  obtain ⟨a, pcs, rfl, hs, hp, hnd, q⟩ := h
  obtain ⟨its, rv, hl, hz⟩ := I.list hs
  obtain ⟨k, hk⟩ := by_addr hnd
  have ei : its = (pcs.map (·.1)).map Value.ref := by
    refine nts_of ?_
    rw [List.map_map]
    exact rv
  have hls : ∀ e ∈ pcs, IsLs s.heap (.ref e.1) e.2 := fun e he => by
    obtain ⟨ws, r2, p2, _⟩ := I.list (hp e he)
    exact ⟨e.1, ws, rfl, p2.isList, r2.ints⟩
  have hkv : ∀ u ∈ its, ∃ e ∈ pcs, u = .ref e.1 ∧ k (adO u) = e.2 := fun u hm => by
    rw [ei, List.map_map] at hm
    obtain ⟨e, he, rfl⟩ := List.mem_map.mp hm
    exact ⟨e, he, rfl, hk e he⟩
  rw [Vals.ref1 r]
  refine SrtO.sorted_ord (NtL.swo_lexL fun u => k (adO u)) hl.isList (by rw [← rv.length]; exact hz) (fun h2 h₁ b hb kk => ls_sortable h2 (by show X.A.units + 1 + 1 < cLine; omega) fun h' keep v hm => ?_) fun out h1 h2 => ?_
  · obtain ⟨e, he, rfl, e2⟩ := hkv v hm
    rw [e2]
    exact (hls e he).keeps fun c o _ g => keep c o (kk c o g).1 (kk c o g).2
  obtain ⟨ep, he'⟩ := PyProof.Rows.sortedAll_at s.heap its out.toArray
  have eo : out = (out.map adO).map Value.ref := ref_map fun u hm => by
    obtain ⟨e, _, e3, _⟩ := hkv u (h2.perm.mem_iff.mp hm)
    exact ⟨_, e3⟩
  have hpm : (out.map adO).Perm (pcs.map (·.1)) := by
    have p1 := h2.perm.map adO
    rw [ei, ad_map] at p1
    exact p1
  have hq : ((out.map adO).map fun b => (b, k b)).Perm pcs := by
    have p1 := hpm.map fun b => (b, k b)
    have e4 : (pcs.map (·.1)).map (fun b => (b, k b)) = pcs := by
      rw [List.map_map]
      conv => rhs; rw [← List.map_id pcs]
      refine List.map_congr_left fun e he => ?_
      show (e.1, k e.1) = e
      rw [hk e he]
    rw [e4] at p1
    exact p1
  have hrefs : ((out.map adO).map fun b => (b, k b)).map (fun e => V.ref e.1) = (out.map adO).map V.ref := by
    rw [List.map_map]
    rfl
  have rvo : Vals ((out.map adO).map V.ref) out := by
    have z := of_nts (out.map adO)
    rw [← eo] at z
    exact z
  have hlen : ((out.map adO).map V.ref).length ≤ sizeLine := by
    rw [List.length_map, hpm.length_eq, List.length_map]
    rw [List.length_map] at hz
    exact hz
  have hsrt : ((out.map adO).map fun b => (b, k b)).Pairwise (fun x y => HT.lexLt y.2 x.2 = false) := by
    rw [List.pairwise_map, List.pairwise_map]
    exact h1.imp fun {x y} z => z
  have fin := q _ (s.heap.objs.size + 1) hq hsrt (I.hok.fresh (Nat.le_succ _))
  rw [hrefs] at fin
  exact ⟨.ref _, upd H (s.heap.objs.size + 1) (.lst ((out.map adO).map V.ref)), I.laid (t' := s.toks) (fun _ _ => PyProof.Rows.sortedAll_old) (Nat.le_succ _) ⟨hlen, out, ep, rvo, he'⟩, rfl, fin⟩
/-- a list in ascending order, sorted, is the same list -/
theorem lexLt_iff : ∀ {xs ys : List Int}, HT.lexLt xs ys = true ↔ xs < ys
  | [], [] => by simp [HT.lexLt]
  | [], y :: ys => by simp [HT.lexLt]
  | x :: xs, [] => by simp [HT.lexLt]
  | x :: xs, y :: ys => by
    rw [HT.lexLt_cons]
    constructor
    · intro h
      by_cases q : x = y
      · rw [if_pos q] at h
        rw [q]
        exact .cons (lexLt_iff.mp h)
      · rw [if_neg q] at h
        exact .rel (of_decide_eq_true h)
    · intro h
      cases h with
      | rel h => rw [if_neg (by omega)]; exact decide_eq_true h
      | cons h => rw [if_pos rfl]; exact lexLt_iff.mpr h
theorem sorted_same {pcs qcs : List (Addr × List Int)} (hp : qcs.Perm pcs) (h1 : qcs.Pairwise (fun x y => HT.lexLt y.2 x.2 = false)) (h2 : pcs.Pairwise (fun x y => x.2 < y.2)) : qcs = pcs := by
  have asym : ∀ {x y : List Int}, x < y → ¬ y < x := fun h k => List.lt_asymm h k
  have h3 : qcs.Pairwise (fun x y => ¬ y.2 < x.2) := h1.imp fun {x y} z k => by rw [lexLt_iff.mpr k] at z; cases z
  have h4 : pcs.Pairwise (fun x y => ¬ y.2 < x.2) := h2.imp fun {x y} z => asym z
  refine hp.eq_of_pairwise (le := fun x y => ¬ y.2 < x.2) (fun x y hx hy k1 k2 => ?_) h3 h4
  -- two items of which none is less than the other one are the same item
  have hx' : x ∈ pcs := hp.mem_iff.mp hx
  by_cases e : x = y
  · exact e
  · obtain ⟨i, hi, rfl⟩ := List.mem_iff_getElem.mp hx'
    obtain ⟨j, hj, rfl⟩ := List.mem_iff_getElem.mp hy
    rcases Nat.lt_trichotomy i j with h | h | h
    · exact (k2 (List.pairwise_iff_getElem.mp h2 i j hi hj h)).elim
    · subst h; exact (e rfl).elim
    · exact (k1 (List.pairwise_iff_getElem.mp h2 j i hj hi h)).elim
end VB
namespace VB
open PySem PySem.Spec PyProof.Rows L2
/-- range(0, j, c): how many, and that all lie below j -/
theorem rg_up {j c : Int} (h0 : 0 ≤ j) (h1 : j < 1000000) (hc : 1 ≤ c) (hc2 : c < 1000000) : ∃ n : Nat, RgC 0 j c n ∧ ∀ t : Nat, t < n → (0 : Int) + t * c < j := by
  have hq : 0 ≤ (j - 0 - 1) / c ∨ j = 0 := by
    by_cases q : j = 0
    · exact .inr q
    · exact .inl (Int.ediv_nonneg (by omega) (by omega))
  have hm : (j - 0 - 1) / c * c ≤ j - 0 - 1 := Int.ediv_mul_le _ (by omega)
  have hle : (j - 0 - 1) / c ≤ 1000000 := by
    apply Classical.byContradiction
    intro k
    have k1 : (1000001 : Int) ≤ (j - 0 - 1) / c := by omega
    have k2 : (1000001 : Int) * c ≤ (j - 0 - 1) / c * c := Int.mul_le_mul_of_nonneg_right k1 (by omega)
    omega
  have hr : Builtin.Range.rangeSize 0 j c = if 0 < j then (j - 0 - 1) / c + 1 else 0 := by
    unfold Builtin.Range.rangeSize
    rw [if_pos (show c > 0 by omega)]
  refine ⟨(Builtin.Range.rangeSize 0 j c).toNat, ⟨by omega, by omega, ?_, ?_⟩, ?_⟩
  · unfold Builtin.Range.small
    rw [hr]
    by_cases q : 0 < j
    · rw [if_pos q]
      rw [if_pos (show c > 0 by omega)]
      have q2 : 0 ≤ (j - 0 - 1) / c := by omega
      simp only [Builtin.Range.rangeFitsLong, Bool.and_eq_true, Bool.or_eq_true, decide_eq_true_eq, beq_iff_eq]
      omega
    · rw [if_neg q, if_pos (show c > 0 by omega)]
      simp only [Builtin.Range.rangeFitsLong, Bool.and_eq_true, Bool.or_eq_true, decide_eq_true_eq, beq_iff_eq]
      omega
  · rw [hr]
    split <;> omega
  · intro t ht
    rw [hr] at ht
    by_cases q : 0 < j
    · rw [if_pos q] at ht
      have k1 : (t : Int) ≤ (j - 0 - 1) / c := by omega
      have k2 : (t : Int) * c ≤ (j - 0 - 1) / c * c := Int.mul_le_mul_of_nonneg_right k1 (by omega)
      omega
    · rw [if_neg q] at ht
      simp at ht
theorem ev_asc (ns : List Int) (e x : Int) (h : e ≤ x) : (ev ns e x).Pairwise (· < ·) := by
  rw [List.pairwise_iff_getElem]
  intro i j hi hj hij
  have h1 := ev_get (ns := ns) _ x rfl h i _ (List.getElem?_eq_getElem hi)
  have h2 := ev_get (ns := ns) _ x rfl h j _ (List.getElem?_eq_getElem hj)
  exact h1.lt h2 (by omega)
theorem Tr.nodup {M : List Addr} {H0 H : Hp} {W : List (Addr × HO)} (S : Tr M H0 H W) : (W.map (·.1)).Nodup := by
  rw [List.nodup_iff_pairwise_ne, List.pairwise_map, List.pairwise_iff_getElem]
  intro i j hi hj hij
  exact S.ne i j (by omega) (List.getElem?_eq_getElem hi) (List.getElem?_eq_getElem hj)
theorem w_sortLs {K : PySem.W.Frag} {M : List Addr} {H0 H : Hp} {W : List (Addr × HO)} {a : Addr} {pcs : List (Addr × List Int)} {Q : VK} (S : Tr M H0 H W) (h : SqL K H a (pcs.map fun e => V.ref e.1)) (hp : ∀ e ∈ pcs, SqL K H e.1 (e.2.map V.int)) (hn : (pcs.map (·.1)).Nodup) (ha : pcs.Pairwise (fun x y => x.2 < y.2))
    (k : ∀ p G, Tr M H0 G ((p, .lst (pcs.map fun e => V.ref e.1)) :: W) → Q (.ref p) G) : rSortedLs K [.ref a] H Q := by
  refine ⟨a, pcs, rfl, h, hp, hn, fun qcs p h1 h2 hpn => ?_⟩
  rw [sorted_same h1 h2 ha]
  exact k p _ (S.new hpn)
theorem lls_shaped (css : List (List Int)) : SeqAt.shaped (.list (css.map fun cs => PyData.list (cs.map PyData.int))) = true := by
  unfold SeqAt.shaped
  have := deps_lists css
  rw [PyData.canLay0, lays_lists, PyData.depth, Bool.true_and, decide_eq_true_eq]
  omega
theorem w_neLL {K : PySem.W.Frag} {H : Hp} {Q : VK} {a b : Addr} {pcs qcs : List (Addr × List Int)} (h : SqL K H a (pcs.map fun e => V.ref e.1)) (hp : ∀ e ∈ pcs, SqL K H e.1 (e.2.map V.int)) (h' : SqL K H b (qcs.map fun e => V.ref e.1)) (hp' : ∀ e ∈ qcs, SqL K H e.1 (e.2.map V.int)) (e : pcs.map (·.2) = qcs.map (·.2)) (q : Q (.bl false) H) : rNeD K (.ref a) (.ref b) H Q := by
  refine ⟨_, _, .lst h (dps_lists pcs hp), .lst h' (dps_lists qcs hp'), lls_shaped _, lls_shaped _, ?_⟩
  rw [e, SeqAt.eqv_refl _ (SeqAt.canLay_of_shaped (lls_shaped _))]
  exact q
end VB

namespace VB
open PySem PySem.Spec PyProof.Rows L2
/-! ### values of several kinds, as data -/
theorem layA_app : ∀ xs ys : List PyData, PyData.canLayAll0 (xs ++ ys) = (PyData.canLayAll0 xs && PyData.canLayAll0 ys)
  | [], ys => by rw [List.nil_append, PyData.canLayAll0, Bool.true_and]
  | x :: xs, ys => by rw [List.cons_append, PyData.canLayAll0, PyData.canLayAll0, layA_app xs ys, Bool.and_assoc]
theorem depA_app : ∀ xs ys : List PyData, PyData.depthAll (xs ++ ys) = max (PyData.depthAll xs) (PyData.depthAll ys)
  | [], ys => by rw [List.nil_append, PyData.depthAll]; omega
  | x :: xs, ys => by rw [List.cons_append, PyData.depthAll, PyData.depthAll, depA_app xs ys]; omega
theorem shA_app : ∀ xs ys : List PyData, PyData.showableAll (xs ++ ys) = (PyData.showableAll xs && PyData.showableAll ys)
  | [], ys => by rw [List.nil_append, PyData.showableAll, Bool.true_and]
  | x :: xs, ys => by rw [List.cons_append, PyData.showableAll, PyData.showableAll, shA_app xs ys, Bool.and_assoc]
theorem isA_app (B : Nat) : ∀ xs ys : List PyData, PyData.intsShortAll B (xs ++ ys) = (PyData.intsShortAll B xs && PyData.intsShortAll B ys)
  | [], ys => by rw [List.nil_append, PyData.intsShortAll, Bool.true_and]
  | x :: xs, ys => by rw [List.cons_append, PyData.intsShortAll, PyData.intsShortAll, isA_app B xs ys, Bool.and_assoc]
theorem wA_app : ∀ xs ys : List PyData, PyData.weightAll (xs ++ ys) = PyData.weightAll xs + PyData.weightAll ys
  | [], ys => by rw [List.nil_append, PyData.weightAll]; omega
  | x :: xs, ys => by rw [List.cons_append, PyData.weightAll, PyData.weightAll, wA_app xs ys]; omega
theorem isA_ints (ns : List Int) (h : ∀ n ∈ ns, n.natAbs < 10 ^ 12) : PyData.intsShortAll 40 (ns.map PyData.int) = true := by
  induction ns with
  | nil => rfl
  | cons n ns ih =>
    rw [List.map_cons, PyData.intsShortAll, ih fun m hm => h m (List.mem_cons_of_mem _ hm), Bool.and_true, PyData.intsShort]
    have := PyData.shown_int_le (h n (List.mem_cons_self ..))
    exact decide_eq_true (by omega)
/-- small data -/
structure Sm (d : PyData) : Prop where
  lay : d.canLay0 = true
  dep : d.depth ≤ 2
  sh : d.showable = true
  is : PyData.intsShort 40 d = true
  w : d.weight ≤ 400
theorem shown_of40 {d : PyData} (c : d.canLay0 = true) (e : d.depth ≤ 40) (s : d.showable = true) (i : PyData.intsShort 40 d = true) (w : d.weight ≤ 100000) : Shown d := by
  refine ⟨c, e, s, ?_⟩
  have := PyData.shown_le 40 (by decide) d (PyData.leavesShort_of_canLay0 40 d c i)
  have h2 : (4400000 : Nat) ≤ sizeLine := by decide
  omega
/-- a list of ints with one item of another kind in it -/
theorem mix_shown {as bs : List Int} {d : PyData} (h1 : ∀ n ∈ as, n.natAbs < 10 ^ 12) (h2 : ∀ n ∈ bs, n.natAbs < 10 ^ 12) (l1 : as.length ≤ 200) (l2 : bs.length ≤ 200) (hd : Sm d) : Shown (.list (as.map PyData.int ++ d :: bs.map PyData.int)) := by
  have w1 := weight_ints as h1
  have w2 := weight_ints bs h2
  refine shown_of40 ?_ ?_ ?_ ?_ ?_
  · rw [PyData.canLay0, layA_app, canLay_ints, PyData.canLayAll0, hd.lay, canLay_ints]; rfl
  · have := hd.dep
    rw [PyData.depth, depA_app, depth_ints, PyData.depthAll, depth_ints]
    omega
  · rw [PyData.showable, shA_app, showable_ints as h1, PyData.showableAll, hd.sh, showable_ints bs h2]; rfl
  · rw [PyData.intsShort, isA_app, isA_ints as h1, PyData.intsShortAll, hd.is, isA_ints bs h2]; rfl
  · have := hd.w
    rw [PyData.weight, wA_app, PyData.weightAll]
    omega
theorem tup_shown {as : List Int} (h1 : ∀ n ∈ as, n.natAbs < 10 ^ 12) (l1 : as.length ≤ 200) : Shown (.tuple (as.map PyData.int)) := by
  have w1 := weight_ints as h1
  refine shown_of40 ?_ ?_ ?_ ?_ ?_
  · rw [PyData.canLay0, canLay_ints]
  · rw [PyData.depth, depth_ints]; omega
  · rw [PyData.showable, showable_ints as h1]
  · rw [PyData.intsShort, isA_ints as h1]
  · rw [PyData.weight]; omega
theorem sm_int {i : Int} (h : i.natAbs < 10 ^ 12) : Sm (.int i) := by
  have w := weight_ints [i] (by intro n hn; rw [List.mem_singleton] at hn; rw [hn]; exact h)
  have s := showable_ints [i] (by intro n hn; rw [List.mem_singleton] at hn; rw [hn]; exact h)
  have k := isA_ints [i] (by intro n hn; rw [List.mem_singleton] at hn; rw [hn]; exact h)
  simp only [List.map_cons, List.map_nil, PyData.weightAll, List.length_cons, List.length_nil] at w
  refine ⟨rfl, by rw [PyData.depth]; omega, by simpa [PyData.showableAll] using s, by simpa [PyData.intsShortAll] using k, by omega⟩
theorem sm_great : Sm (.int (10 ^ 30)) := ⟨rfl, by decide +kernel, by decide +kernel, by decide +kernel, by decide +kernel⟩
theorem sm_non : Sm .none := ⟨rfl, by decide +kernel, by decide +kernel, by decide +kernel, by decide +kernel⟩
theorem sm_bl (b : Bool) : Sm (.bool b) := by cases b <;> exact ⟨rfl, by decide +kernel, by decide +kernel, by decide +kernel, by decide +kernel⟩
theorem sm_str0 : Sm (.str "0") := ⟨by decide +kernel, by decide +kernel, by decide +kernel, by decide +kernel, by decide +kernel⟩
theorem sm_lst0 : Sm (.list [.int 0]) := ⟨rfl, by decide +kernel, by decide +kernel, by decide +kernel, by decide +kernel⟩
/-- a value, its items, its data -/
structure Vl (K : PySem.W.Frag) (H : Hp) (x : V) (d : PyData) : Prop where
  ty : ∃ n, Ty H x n
  it : ∀ a xs, x = .ref a → H a = some (.lst xs) → ∀ y ∈ xs, ∃ n, Ty H y n
  dp : Dp K H x d
theorem dpAll_mix {K : PySem.W.Frag} {H : Hp} {x : V} {d : PyData} (hx : Dp K H x d) (bs : List Int) : ∀ as : List Int, DpAll K H (as.map V.int ++ x :: bs.map V.int) (as.map PyData.int ++ d :: bs.map PyData.int)
  | [] => .cons hx (dpAll_ints bs)
  | a :: as => .cons (.int a) (dpAll_mix hx bs as)
theorem vl_mix {K : PySem.W.Frag} {H : Hp} {r : Addr} {as bs : List Int} {x : V} {d : PyData} (h : H r = some (.lst (as.map V.int ++ x :: bs.map V.int))) (hx : Dp K H x d) (ht : ∃ n, Ty H x n) : Vl K H (.ref r) (.list (as.map PyData.int ++ d :: bs.map PyData.int)) := by
  refine ⟨⟨_, .lst h⟩, fun a xs e k y hy => ?_, .lst (.inl (.inl h)) (dpAll_mix hx bs as)⟩
  cases e
  rw [h] at k
  cases k
  rcases List.mem_append.mp hy with hy | hy
  · obtain ⟨i, _, rfl⟩ := List.mem_map.mp hy
    exact ⟨_, .int i⟩
  · rcases List.mem_cons.mp hy with rfl | hy
    · exact ht
    · obtain ⟨i, _, rfl⟩ := List.mem_map.mp hy
      exact ⟨_, .int i⟩
theorem vl_ints {K : PySem.W.Frag} {H : Hp} {r : Addr} {as : List Int} (h : H r = some (.lst (as.map V.int))) : Vl K H (.ref r) (.list (as.map PyData.int)) :=
  ⟨(ty_ints h).1, (ty_ints h).2, dp_ints (.inl (.inl h))⟩
theorem vl_tup {K : PySem.W.Frag} {H : Hp} {r : Addr} {as : List Int} (h : H r = some (.tup (as.map V.int))) : Vl K H (.ref r) (.tuple (as.map PyData.int)) := by
  refine ⟨⟨_, .tup h⟩, fun a xs e k y hy => ?_, .tup (.inl (.inl h)) (dpAll_ints as)⟩
  cases e
  rw [h] at k
  cases k
/-- what holds wherever these objects are -/
def Stay (W : List (Addr × HO)) (P : Hp → Prop) : Prop := ∀ G : Hp, (∀ e ∈ W, G e.1 = some e.2) → P G
theorem Stay.of {W U : List (Addr × HO)} {P : Hp → Prop} {M : List Addr} {H0 H : Hp} (h : Stay W P) (S : Tr M H0 H U) (k : ∀ e ∈ W, e ∈ U) : P H := h H fun e he => S.mem (k e he)
theorem w_reprVl {K : PySem.W.Frag} {H : Hp} {x : V} {d : PyData} {Q : VK} (h : Vl K H x d) (sh : Shown d) (q : Q (.str d.shown) H) : rRepr K [x] H Q := ⟨x, d, rfl, h.dp, sh, q⟩
theorem Tr.pick2 {M : List Addr} {H0 H : Hp} {W : List (Addr × HO)} {a b : Addr × HO} (S : Tr M H0 H W) (i j : Nat) (ij : i ≠ j) (h1 : W[i]? = some a) (h2 : W[j]? = some b) : Tr M H0 H [a, b] := by
  have m1 := List.mem_of_getElem? h1
  have m2 := List.mem_of_getElem? h2
  refine ⟨S.fr, fun e he => ?_, ?_, fun e he => ?_⟩
  · simp only [List.mem_cons, List.not_mem_nil, or_false] at he
    rcases he with rfl | rfl
    · exact S.own _ m1
    · exact S.own _ m2
  · have := S.ne i j ij (a := a.1) (o := a.2) (b := b.1) (o' := b.2) h1 h2
    simp [this]
  · simp only [List.mem_cons, List.not_mem_nil, or_false] at he
    rcases he with rfl | rfl
    · exact S.ow _ m1
    · exact S.ow _ m2
theorem Tr.pick3 {M : List Addr} {H0 H : Hp} {W : List (Addr × HO)} {a b c : Addr × HO} (S : Tr M H0 H W) (i j k : Nat) (ij : i ≠ j) (ik : i ≠ k) (jk : j ≠ k) (h1 : W[i]? = some a) (h2 : W[j]? = some b) (h3 : W[k]? = some c) : Tr M H0 H [a, b, c] := by
  have m1 := List.mem_of_getElem? h1
  have m2 := List.mem_of_getElem? h2
  have m3 := List.mem_of_getElem? h3
  refine ⟨S.fr, fun e he => ?_, ?_, fun e he => ?_⟩
  · simp only [List.mem_cons, List.not_mem_nil, or_false] at he
    rcases he with rfl | rfl | rfl
    · exact S.own _ m1
    · exact S.own _ m2
    · exact S.own _ m3
  · have n1 := S.ne i j ij (a := a.1) (o := a.2) (b := b.1) (o' := b.2) h1 h2
    have n2 := S.ne i k ik (a := a.1) (o := a.2) (b := c.1) (o' := c.2) h1 h3
    have n3 := S.ne j k jk (a := b.1) (o := b.2) (b := c.1) (o' := c.2) h2 h3
    simp [n1, n2, n3]
  · simp only [List.mem_cons, List.not_mem_nil, or_false] at he
    rcases he with rfl | rfl | rfl
    · exact S.ow _ m1
    · exact S.ow _ m2
    · exact S.ow _ m3
end VB
namespace VB
open PySem PySem.Spec PyProof.Rows L2
/-- a value that is known to be no log -/
structure NoLog (H : Hp) (x : V) : Prop where
  ty : ∃ n, Ty H x n
  it : ∀ a xs, x = .ref a → H a = some (.lst xs) → ∀ y ∈ xs, ∃ n, Ty H y n
  no : ¬ LogV H x
def intOf : V → Int
  | .int i => i
  | _ => 0
def plainV : V → Bool
  | .non => true
  | .int _ => true
  | .bl _ => true
  | .str _ => true
  | _ => false
def noLogB (xs : List V) : Bool := !formL xs || (List.range 5).any fun i => (List.range 5).any fun j => crossB (xs.map intOf) i j
theorem noLogB_not {ns : List Int} (h : noLogB (ns.map V.int) = true) (hL : Log ns) : False := by
  unfold noLogB at h
  rw [(formL_ints ns).mpr hL.form, Bool.not_true, Bool.false_or, List.any_eq_true] at h
  obtain ⟨i, _, h⟩ := h
  obtain ⟨j, _, h⟩ := List.any_eq_true.mp h
  rw [List.map_map] at h
  have e : (intOf ∘ V.int) = id := rfl
  rw [e, List.map_id] at h
  exact hL.nc i j (cross_iff.mpr h)
/-! ### chains, of values -/
structure Ch (ns cs : List Int) : Prop where
  ne : cs ≠ []
  rg : ∀ c ∈ cs, 0 ≤ c ∧ c < ns.length
  st : ∀ i x y, cs[i]? = some x → cs[i + 1]? = some y → x ≠ 0 ∧ (y = x - 1 ∨ y = at0 ns x)
def ChainV (H : Hp) (ns : List Int) (x : V) : Prop := ∃ b cs, x = .ref b ∧ H b = some (.lst (cs.map V.int)) ∧ Ch ns cs
theorem NC.ch {ns cs : List Int} {e s n : Int} (hF : Form ns) (h0 : 0 ≤ e) (h : NC ns e s n cs) (hs : s < ns.length) : Ch ns cs := by
  have hm := h.mem hF h0 hs
  refine ⟨?_, fun c hc => by have := hm c hc; omega, fun i x y h1 h2 => ?_⟩
  · obtain ⟨r, hr⟩ := h.head
    rw [hr]
    simp
  · have := h.pair h1 h2
    exact ⟨by omega, this.2⟩
theorem chainV_ref {H : Hp} {ns : List Int} {b : Addr} {xs : List V} (h : H b = some (.lst xs)) : ChainV H ns (.ref b) ↔ ∃ cs, xs = cs.map V.int ∧ Ch ns cs := by
  constructor
  · rintro ⟨b', cs, e, k, hc⟩
    cases e
    rw [h] at k
    cases k
    exact ⟨cs, rfl, hc⟩
  · rintro ⟨cs, rfl, hc⟩
    exact ⟨b, cs, rfl, h, hc⟩
theorem chainV_not {H : Hp} {ns : List Int} {x : V} (h : isL H x = false) : ¬ ChainV H ns x := by
  rintro ⟨b, cs, rfl, k, _⟩
  simp [isL, k] at h
/-- all of these are ints in a range -/
theorem ints_of_all {m : Int} : ∀ {xs : List V}, (∀ y ∈ xs, intIn y 0 m = true) → ∃ cs : List Int, xs = cs.map V.int ∧ ∀ c ∈ cs, 0 ≤ c ∧ c ≤ m
  | [], _ => ⟨[], rfl, fun c hc => absurd hc List.not_mem_nil⟩
  | y :: xs, h => by
    obtain ⟨cs, rfl, hc⟩ := ints_of_all fun y hy => h y (List.mem_cons_of_mem _ hy)
    have h1 := h y (List.mem_cons_self ..)
    cases y with
    | int i =>
      simp only [intIn, Bool.and_eq_true, decide_eq_true_eq] at h1
      refine ⟨i :: cs, rfl, fun c hc' => ?_⟩
      rcases List.mem_cons.mp hc' with rfl | hc'
      · exact h1
      · exact hc c hc'
    | _ => cases h1
theorem isL_ref {H : Hp} {x : V} (h : isL H x = true) : ∃ a xs, x = .ref a ∧ H a = some (.lst xs) := by
  unfold isL at h
  split at h
  · split at h
    · exact ⟨_, _, rfl, by assumption⟩
    · cases h
  · cases h
/-- a value that is typed, as data where it is a list -/
structure Odd (K : PySem.W.Frag) (H : Hp) (x : V) : Prop where
  ty : ∃ n, Ty H x n
  it : ∀ a xs, x = .ref a → H a = some (.lst xs) → ∀ y ∈ xs, ∃ n, Ty H y n
  dl : ∀ a xs, x = .ref a → H a = some (.lst xs) → ∃ ds, DpAll K H xs ds ∧ SeqAt.shaped (.list ds) = true
theorem dpAll_len {K : PySem.W.Frag} {H : Hp} : ∀ {xs : List V} {ds : List PyData}, DpAll K H xs ds → xs.length = ds.length
  | _, _, .nil => rfl
  | _, _, .cons _ h => by rw [List.length_cons, List.length_cons, dpAll_len h]
/-- a list against the empty list -/
theorem w_eqE {K : PySem.W.Frag} {H : Hp} {Q : VK} {a b : Addr} {ds : List PyData} (h : Dp K H (.ref a) (.list ds)) (hs : SeqAt.shaped (.list ds) = true) (hb : SqL K H b []) (q : Q (.bl (decide (ds = []))) H) : rEqD K (.ref a) (.ref b) H Q := by
  refine ⟨_, _, h, .lst hb .nil, hs, by decide, ?_⟩
  cases ds with
  | nil => simpa [PyData.eqv, PyData.eqvAll] using q
  | cons d ds => simpa [PyData.eqv, PyData.eqvAll] using q
theorem shown_shaped {d : PyData} (h : d.canLay0 = true) (hd : d.depth ≤ 40) : SeqAt.shaped d = true := by
  unfold SeqAt.shaped
  rw [h, Bool.true_and, decide_eq_true_eq]
  omega
/-! ### middling data -/
structure Bg (d : PyData) : Prop where
  lay : d.canLay0 = true
  dep : d.depth ≤ 4
  sh : d.showable = true
  is : PyData.intsShort 40 d = true
  w : d.weight ≤ 20000
theorem Bg.shown {d : PyData} (h : Bg d) : Shown d := shown_of40 h.lay (Nat.le_trans h.dep (by decide)) h.sh h.is (Nat.le_trans h.w (by decide))
theorem Bg.shaped {d : PyData} (h : Bg d) : SeqAt.shaped d = true := shown_shaped h.lay (Nat.le_trans h.dep (by decide))
theorem mix_bg {as bs : List Int} {d : PyData} (h1 : ∀ n ∈ as, n.natAbs < 10 ^ 12) (h2 : ∀ n ∈ bs, n.natAbs < 10 ^ 12) (l1 : as.length ≤ 200) (l2 : bs.length ≤ 200) (hd : Sm d) : Bg (.list (as.map PyData.int ++ d :: bs.map PyData.int)) := by
  have w1 := weight_ints as h1
  have w2 := weight_ints bs h2
  refine ⟨?_, ?_, ?_, ?_, ?_⟩
  · rw [PyData.canLay0, layA_app, canLay_ints, PyData.canLayAll0, hd.lay, canLay_ints]; rfl
  · have := hd.dep
    rw [PyData.depth, depA_app, depth_ints, PyData.depthAll, depth_ints]
    omega
  · rw [PyData.showable, shA_app, showable_ints as h1, PyData.showableAll, hd.sh, showable_ints bs h2]; rfl
  · rw [PyData.intsShort, isA_app, isA_ints as h1, PyData.intsShortAll, hd.is, isA_ints bs h2]; rfl
  · have := hd.w
    rw [PyData.weight, wA_app, PyData.weightAll]
    omega
theorem ints_bg {as : List Int} (h1 : ∀ n ∈ as, n.natAbs < 10 ^ 12) (l1 : as.length ≤ 400) : Bg (.list (as.map PyData.int)) := by
  have w1 := weight_ints as h1
  refine ⟨?_, ?_, ?_, ?_, ?_⟩
  · rw [PyData.canLay0, canLay_ints]
  · rw [PyData.depth, depth_ints]; omega
  · rw [PyData.showable, showable_ints as h1]
  · rw [PyData.intsShort, isA_ints as h1]
  · rw [PyData.weight]; omega
theorem tup_bg {as : List Int} (h1 : ∀ n ∈ as, n.natAbs < 10 ^ 12) (l1 : as.length ≤ 400) : Bg (.tuple (as.map PyData.int)) := by
  have w1 := weight_ints as h1
  refine ⟨?_, ?_, ?_, ?_, ?_⟩
  · rw [PyData.canLay0, canLay_ints]
  · rw [PyData.depth, depth_ints]; omega
  · rw [PyData.showable, showable_ints as h1]
  · rw [PyData.intsShort, isA_ints as h1]
  · rw [PyData.weight]; omega
theorem pair_shown2 {d1 d2 : PyData} (h1 : Bg d1) (h2 : Bg d2) : Shown (.list [d1, d2]) := by
  refine shown_of40 ?_ ?_ ?_ ?_ ?_
  · rw [PyData.canLay0, PyData.canLayAll0, PyData.canLayAll0, h1.lay, h2.lay]; rfl
  · have := h1.dep
    have := h2.dep
    rw [PyData.depth, PyData.depthAll, PyData.depthAll, PyData.depthAll]
    omega
  · rw [PyData.showable, PyData.showableAll, PyData.showableAll, h1.sh, h2.sh]; rfl
  · rw [PyData.intsShort, PyData.intsShortAll, PyData.intsShortAll, h1.is, h2.is]; rfl
  · have := h1.w
    have := h2.w
    rw [PyData.weight, PyData.weightAll, PyData.weightAll, PyData.weightAll]
    omega
theorem w_repr2d {K : PySem.W.Frag} {H : Hp} {p : Addr} {x y : V} {d1 d2 : PyData} {Q : VK} (h : SqL K H p [x, y]) (h1 : Dp K H x d1) (h2 : Dp K H y d2) (sh : Shown (.list [d1, d2])) (q : Q (.str (PyData.shown (.list [d1, d2]))) H) : rRepr K [.ref p] H Q :=
  ⟨_, _, rfl, .lst h (.cons h1 (.cons h2 .nil)), sh, q⟩
/-- a value whose list, if it is one, is not too long -/
structure Vx (K : PySem.W.Frag) (H : Hp) (x : V) (d : PyData) : Prop where
  vl : Vl K H x d
  le : ∀ a xs, x = .ref a → H a = some (.lst xs) → xs.length ≤ 1000 ∧ ∃ ds, d = .list ds ∧ DpAll K H xs ds
theorem vx_lst {K : PySem.W.Frag} {H : Hp} {a : Addr} {xs : List V} {ds : List PyData} (v : Vl K H (.ref a) (.list ds)) (h : H a = some (.lst xs)) (hd : DpAll K H xs ds) (l : xs.length ≤ 1000) : Vx K H (.ref a) (.list ds) :=
  ⟨v, fun b ys e k => by cases e; rw [h] at k; cases k; exact ⟨l, ds, rfl, hd⟩⟩
theorem vx_tup {K : PySem.W.Frag} {H : Hp} {a : Addr} {xs : List V} {d : PyData} (v : Vl K H (.ref a) d) (h : H a = some (.tup xs)) : Vx K H (.ref a) d :=
  ⟨v, fun b ys e k => by cases e; rw [h] at k; cases k⟩
theorem Vx.odd {K : PySem.W.Frag} {H : Hp} {x : V} {d : PyData} (h : Vx K H x d) (b : Bg d) : Odd K H x := ⟨h.vl.ty, h.vl.it, fun a xs e k => by
  obtain ⟨_, ds, rfl, hd⟩ := h.le a xs e k
  exact ⟨ds, hd, b.shaped⟩⟩
def plainD : V → PyData
  | .int i => .int i
  | .bl b => .bool b
  | .str x => .str x
  | _ => .none
theorem dpAll_plain {K : PySem.W.Frag} {H : Hp} : ∀ {xs : List V}, xs.all plainV = true → DpAll K H xs (xs.map plainD)
  | [], _ => .nil
  | x :: xs, h => by
    rw [List.all_cons, Bool.and_eq_true] at h
    refine .cons ?_ (dpAll_plain h.2)
    cases x with
    | non => exact .non
    | int i => exact .int i
    | bl b => exact .bl b
    | str x => exact .str x
    | _ => cases h.1
theorem ty_plain {H : Hp} {xs : List V} (h : xs.all plainV = true) : ∀ y ∈ xs, ∃ n, Ty H y n := fun y hy => by
  have := List.all_eq_true.mp h y hy
  cases y with
  | non => exact ⟨_, .non⟩
  | int i => exact ⟨_, .int i⟩
  | bl b => exact ⟨_, .bl b⟩
  | str x => exact ⟨_, .str x⟩
  | _ => cases this
section
variable {K : PySem.W.Frag} {G : Hp} {a : Addr} {xs : List V}
theorem od_non : Odd K G .non := ⟨⟨_, .non⟩, (fun _ _ e => nomatch e), (fun _ _ e => nomatch e)⟩
theorem od_int (i : Int) : Odd K G (.int i) := ⟨⟨_, .int i⟩, (fun _ _ e => nomatch e), (fun _ _ e => nomatch e)⟩
theorem od_bl (b : Bool) : Odd K G (.bl b) := ⟨⟨_, .bl b⟩, (fun _ _ e => nomatch e), (fun _ _ e => nomatch e)⟩
theorem od_str (x : Str) : Odd K G (.str x) := ⟨⟨_, .str x⟩, (fun _ _ e => nomatch e), (fun _ _ e => nomatch e)⟩
theorem od_tup (h : G a = some (.tup xs)) : Odd K G (.ref a) := ⟨⟨_, .tup h⟩, (fun _ _ e k => by cases e; rw [h] at k; cases k), (fun _ _ e k => by cases e; rw [h] at k; cases k)⟩
theorem od_dct {kvs : List (Key × V)} (h : G a = some (.dK kvs)) : Odd K G (.ref a) := ⟨⟨_, .dK h⟩, (fun _ _ e k => by cases e; rw [h] at k; cases k), (fun _ _ e k => by cases e; rw [h] at k; cases k)⟩
theorem od_lst {ds : List PyData} (h : G a = some (.lst xs)) (ht : ∀ y ∈ xs, ∃ n, Ty G y n) (hd : DpAll K G xs ds) (hs : SeqAt.shaped (.list ds) = true) : Odd K G (.ref a) :=
  ⟨⟨_, .lst h⟩, (fun _ _ e k => by cases e; rw [h] at k; cases k; exact ht), (fun _ _ e k => by cases e; rw [h] at k; cases k; exact ⟨_, hd, hs⟩)⟩
theorem od_flat (h : G a = some (.lst xs)) (ht : xs.all plainV = true) (hs : SeqAt.shaped (.list (xs.map plainD)) = true) : Odd K G (.ref a) := od_lst h (ty_plain ht) (dpAll_plain ht) hs
end
end VB
namespace VB
open PySem PySem.Spec PyProof.Rows L2
mutual
theorem Dp.keep {K : PySem.W.Frag} {H H' : Hp} (k : ∀ a o, H a = some o → H' a = some o) : ∀ {x : V} {d : PyData}, Dp K H x d → Dp K H' x d
  | _, _, .non => .non
  | _, _, .bl b => .bl b
  | _, _, .int i => .int i
  | _, _, .str x => .str x
  | _, _, .lst h hs => .lst (h.elim (fun h => .inl (h.elim (fun h => .inl (k _ _ h)) fun ⟨o, h⟩ => .inr ⟨o, k _ _ h⟩)) .inr) (DpAll.keep k hs)
  | _, _, .tup h hs => .tup (h.elim (fun h => .inl (h.elim (fun h => .inl (k _ _ h)) fun ⟨o, h⟩ => .inr ⟨o, k _ _ h⟩)) .inr) (DpAll.keep k hs)
theorem DpAll.keep {K : PySem.W.Frag} {H H' : Hp} (k : ∀ a o, H a = some o → H' a = some o) : ∀ {xs : List V} {ds : List PyData}, DpAll K H xs ds → DpAll K H' xs ds
  | _, _, .nil => .nil
  | _, _, .cons h hs => .cons (Dp.keep k h) (DpAll.keep k hs)
end
end VB

namespace VB
open PySem PySem.Spec PyProof.Rows L2
/-! ### x is True, x an int or a bool -/
def rIsV : R2 := fun x y H Q => ∃ b : Bool, y = .bl b ∧ ((∃ i, x = .int i) ∨ ∃ c, x = .bl c) ∧ Q (.bl (decide (x = .bl b))) H
theorem op_isV {X : Cx} : OpR X (compareOp .Is) rIsV := by
  intro pins s σ H x y v u Q I rx ry h
  obtain ⟨b, rfl, hx, q⟩ := h
  obtain rfl : u = Value.bool b := ry
  rcases hx with ⟨i, rfl⟩ | ⟨c, rfl⟩
  · obtain ⟨t, rfl⟩ : ∃ t, v = Value.int i t := rx
    exact wpAny_is_other rfl (fun z => nomatch z) ⟨.bl false, H, I, rfl, by simpa using q⟩
  · obtain rfl : v = Value.bool c := rx
    by_cases e : c = b
    · subst e
      exact wpAny_is_self rfl ⟨.bl true, H, I, rfl, by simpa using q⟩
    · exact wpAny_is_other rfl (fun z => e (Value.bool.inj z)) ⟨.bl false, H, I, rfl, by simpa [e] using q⟩
theorem w_isVI {H : Hp} {Q : VK} {i : Int} {b : Bool} (q : Q (.bl false) H) : rIsV (.int i) (.bl b) H Q :=
  ⟨b, rfl, .inl ⟨i, rfl⟩, by rw [decide_eq_false (fun z => nomatch z)]; exact q⟩
theorem w_isVB {H : Hp} {Q : VK} {c b : Bool} (q : Q (.bl (decide (c = b))) H) : rIsV (.bl c) (.bl b) H Q :=
  ⟨b, rfl, .inr ⟨c, rfl⟩, by rw [show decide (V.bl c = V.bl b) = decide (c = b) from decide_eq_decide.mpr ⟨V.bl.inj, congrArg _⟩]; exact q⟩
/-- an int and no bool -/
def isIntV : V → Bool
  | .int _ => true
  | _ => false
theorem isIntV_ints (ns : List Int) : (ns.map V.int).all isIntV = true := by
  induction ns with
  | nil => rfl
  | cons n ns ih => rw [List.map_cons, List.all_cons, ih]; rfl
theorem ints_allV : ∀ {xs : List V}, xs.all isIntV = true → ∃ ns : List Int, xs = ns.map V.int
  | [], _ => ⟨[], rfl⟩
  | x :: xs, h => by
    rw [List.all_cons, Bool.and_eq_true] at h
    obtain ⟨ns, rfl⟩ := ints_allV h.2
    cases x with
    | int i => exact ⟨i :: ns, rfl⟩
    | _ => simp [isIntV] at h
/-! ### enumerate(xs, c) -/
def IteC (K : PySem.W.Frag) (a : Addr) (c : Int) : It where
  go := fun i H => ∃ (zs : List V) (z : V), SqL K H a zs ∧ zs[i]? = some z
  yld := fun i H v H' => ∃ T z, v = .ref T ∧ H T = none ∧ H' = upd H T (.tup [.int (c + (i : Nat)), z]) ∧ ∀ zs, SqL K H a zs → zs[i]? = some z
  stop := fun i H => ∃ zs : List V, SqL K H a zs ∧ zs.length ≤ i
theorem lists_apart {h : Heap} {a e : Addr} {vs : Array Value} {o : Obj} {t : String} (hl : h.IsList a vs) (he : h.get? e = some o) (hc : o.cls = .type t) (ht : t ≠ "list") : a ≠ e := by
  rintro rfl
  obtain ⟨o2, g, c, _⟩ := hl
  rw [he] at g
  cases g
  rw [hc] at c
  exact ht (Value.type.inj c)
theorem enum_done {P : Program} {w : World} {A : Around} {E : Value → Shared → Prop} {s : Shared} {e it l : Addr} {i : Nat} {c : Int} {items : Array Value} {old : Value} {Q : Option Value → Shared → Prop} (hh : A.handled = none) (hne : l ≠ it)
    (he : IsEnum s.heap e it c old) (hit : s.heap.IsListIter it l i) (hl : s.heap.IsList l items) (hi : items.size ≤ i) (k : ∀ h', Heap.ExtBut it s.heap h' → Q none { s with heap := h' }) : wpAny (model P w) A (pyNext (.ref e)) Q E s := by
  have hT : s.TypeIs (.ref e) "enumerate" := ⟨_, he, rfl⟩
  unfold pyNext
  refine wpAny_bind (wpAny_attempt (wpAny_callSpecial?_slot (name := Str.ofString "__next__") hT F.slot_enumerate_next ?_))
  refine wpAny_call_entry F.slot_enumerate_next hT F.entry_enumerate_next ?_ (F.args_enumerate_next_1 _)
  show wpAny _ _ (field (.ref e) 2 >>= _) _ _ _
  refine wpAny_bind (wpAny_field he rfl (x := .ref it) rfl ?_)
  refine wpAny_bind (wpAny_nextOf_list_end (A := A.in1) hh hit hl (Array.getElem?_eq_none hi) fun h' x he' hx => ?_)
  obtain ⟨o, ho, hcl⟩ := hx
  refine wpAny_bind (wpAny_isInstance (T := "StopIteration") (b := true) ⟨o, ho, hcl⟩ isSubtype_stop ?_)
  exact wpAny_pure (k h' he')
theorem turn_enumC {P : Program} {w : World} {K : PySem.W.Frag} {elts : List Expr} {kk : Nat} {tpos : Pos} (a e it : Addr) (c : Int) :
    Turn P w K (.Tuple elts kk tpos) (IteC K a c) [e, it] e (fun i h => (∃ old, IsEnum h e it (c + (i : Nat)) old) ∧ h.IsListIter it a i ∧ e ≠ it) where
  mem := List.mem_cons_self ..
  obj := by
    rintro i h ⟨⟨old, he⟩, ⟨o, ho, _, hd⟩, _⟩ b hb
    rcases List.mem_cons.mp hb with z | z
    · subst z; exact ⟨_, he, fun v q => nomatch q⟩
    · rw [List.mem_singleton] at z
      subst z
      exact ⟨o, ho, fun v q => by rw [hd] at q; cases q⟩
  keep := by
    rintro i h h' ⟨⟨old, he⟩, hi, hne⟩ k
    exact ⟨⟨old, k e (by simp) _ he⟩, hi.at fun o q => k it (by simp) o q, hne⟩
  item := by
    rintro X rfl rfl rfl hc i pins s σ H E I hf ⟨⟨old, he⟩, hit, hne⟩ ⟨zs, z, hq, hz⟩
    obtain ⟨its, rv, p, _⟩ := I.list hq
    obtain ⟨u, hu, ru⟩ := rv.get hz
    have hel : e < s.heap.objs.size := Heap.lt_size he
    have a1 : a ≠ e := lists_apart p.isList he rfl (by decide)
    have a2 : a ≠ it := by
      obtain ⟨o, ho, hcl, _⟩ := id hit
      exact lists_apart p.isList ho hcl (by decide)
    have hlt : i < its.toArray.size := by
      have := (List.getElem?_eq_some_iff.mp hu).1
      simpa using this
    refine wpAny_pyNext_enum_itemC (Draws.list (A := X.A.in1) (I.ok.hd hc) it a a2 its.toArray) he ⟨hit, p.isList⟩ hlt hne (fun hm => ?_) fun u' h' tk hP ho hst hT hsz hk => ?_
    · rcases List.mem_cons.mp hm with q | q
      · exact hne q
      · exact a1 (List.mem_singleton.mp q).symm
    obtain rfl : u = u' := by
      have hP : its.toArray[i]? = some u' := hP
      rw [List.getElem?_toArray, hu] at hP
      exact Option.some.inj hP
    refine ⟨_, rfl, wpAny_letOwnedTupleGo_enum (s := { s with heap := h', toks := tk + 1 }) ho fun g he' sb => ?_⟩
    have hT2 := (sb.2 _ (Nat.ne_of_gt hel)).trans hT
    have new : ObjOk X.prog X.w (upd H s.heap.objs.size (.tup [.int (c + (i : Nat)), z])) g s.heap.objs.size (.tup [.int (c + (i : Nat)), z]) :=
      ⟨by show 2 ≤ sizeLine; decide, [.int (c + (i : Nat)) tk, u], .cons ⟨_, rfl⟩ (.cons ru .nil), ⟨_, hT2, rfl, _, rfl⟩⟩
    have I1 := I.turnedNew (h' := g) (t' := tk + 1) (ch := [e, it]) (fun b ob hb q => (sb.2 b (fun z => hb (by simp [z]))).trans (hk b ob (fun z => hb (by simp [z])) (fun z => hb (by simp [z])) q)) hf (Nat.le_refl _) new
    refine ⟨.ref s.heap.objs.size, _, I1, rfl, ⟨_, z, rfl, I.hok.fresh (Nat.le_refl _), rfl, fun ys hy => by rw [I.list_inj hy hq]; exact hz⟩, ⟨⟨u, ?_⟩, hst.1.at fun o q => (sb.2 it (Ne.symm hne)).trans q, hne⟩, fun b hb => ?_⟩
    · rw [show c + ((i + 1 : Nat) : Int) = c + (i : Nat) + 1 by omega]
      exact he'
    · have hb' : b < s.heap.objs.size := by
        rcases List.mem_cons.mp hb with z | z
        · rw [z]; exact hel
        · rw [List.mem_singleton.mp z]
          obtain ⟨_, q, _⟩ := hit
          exact Heap.lt_size q
      rw [upd_ne (Nat.ne_of_lt hb')]
      exact (hf b hb).1
  done := by
    rintro X rfl rfl rfl hc i pins s σ H E I hf ⟨⟨old, he⟩, hit, hne⟩ ⟨zs, hq, hle⟩
    obtain ⟨its, rv, p, _⟩ := I.list hq
    obtain ⟨f0, f1, f2, f3, f4, f5⟩ := hf it (by simp)
    have hl := rv.length
    have a2 : a ≠ it := by
      obtain ⟨o, ho, hcl, _⟩ := id hit
      exact lists_apart p.isList ho hcl (by decide)
    have hii : i = its.toArray.size ∨ its.toArray.size < i := by rw [List.size_toArray]; omega
    exact enum_done (I.ok.hd hc) a2 he hit p.isList (by rw [List.size_toArray]; omega) fun h' eb => ⟨rfl, I.turned (t' := s.toks) (fun b o hb q => eb b o hb q) f0 f1 f3 f4 f5⟩
  self := by
    rintro A i s Q E ⟨⟨_, he⟩, _⟩ h
    exact wpAny_pyIter_enum he h
def iEnumC (K : PySem.W.Frag) (ta : TA) : TI := fun σ H R => ta σ H fun vs H1 => ∃ a zs c, vs = [.ref a, .int c] ∧ SqL K H1 a zs ∧ (-(2 ^ 63) ≤ c ∧ c < 2 ^ 63) ∧ R (IteC K a c) H1
theorem pi_enumC {X : Cx} {e e2 : Expr} {ta : TA} {p pos tpos : Pos} {elts : List Expr} {kk : Nat} (hg : Gl X "enumerate") (hm : X.mg "enumerate" = none) (ha : PA X [e, e2] ta)
    (hs : starEach [e, e2] X.env = (false, eval e X.env) :: starEach [e2] X.env := by rfl) (hpl : (backTo pos (starEach [e2] X.env)).any (·.1) = false := by rfl) :
    PI X (.Tuple elts kk tpos) (.Call (.Name "enumerate" p) [e, e2] [] pos) (iEnumC X.K ta) := by
  refine ⟨fun pins s σ H R I h => ?_⟩
  refine Call_ (ld_blt I hg hm boot_enumerate (PyProof.Rows.callWith_type1 (thn (ha.run pos pins s σ H _ I h) fun us s1 ⟨vs, H1, I1, r1, q1⟩ => ?_) hs hpl))
  obtain ⟨a, zs, c, ex, hq, ⟨c0, c1⟩, q⟩ := q1
  subst ex
  cases r1 with
  | cons r rr =>
    cases rr with
    | cons r' rr =>
      cases rr
      cases r
      obtain ⟨t, rfl⟩ := r'
      obtain ⟨its, rv, p', _⟩ := I1.list hq
      refine enum_begins (begins_list a its.toArray) p'.isList c0 c1 fun h' he ho hsz hk => wpAny_pyIter_enum he ?_
      have I2 : Inv X pins σ H1 { s1 with heap := h' } := I1.kept (t' := s1.toks) hk
      refine ⟨s1.heap.objs.size + 1, [s1.heap.objs.size + 1, s1.heap.objs.size], _, _, H1, rfl, I2, turn_enumC a (s1.heap.objs.size + 1) s1.heap.objs.size c, ⟨⟨.none, ?_⟩, ⟨_, ho, rfl, rfl⟩, Nat.succ_ne_self _⟩, fun b hb => ?_, q⟩
      · rw [show c + ((0 : Nat) : Int) = c by omega]
        exact he
      · have hle : s1.heap.objs.size ≤ b := by
          rcases List.mem_cons.mp hb with z | z
          · rw [z]; exact Nat.le_add_right _ _
          · rw [List.mem_singleton.mp z]; exact Nat.le_refl _
        exact I1.fpOk hle (I1.hok.fresh hle)
theorem w_ienumC {K : PySem.W.Frag} {ta : TA} {σ : L2.St} {H : Hp} {R : It → Hp → Prop} (q : ta σ H fun vs H1 => ∃ a zs c, vs = [.ref a, .int c] ∧ SqL K H1 a zs ∧ (-(2 ^ 63) ≤ c ∧ c < 2 ^ 63) ∧ R (IteC K a c) H1) : iEnumC K ta σ H R := q
theorem walk_enumC {K : PySem.W.Frag} {a : Addr} {xs : List V} {c : Int} : Walk (IteC K a c) xs.length (fun H => SqL K H a xs) (YPair (fun i => some (.int (c + (i : Nat)))) (fun i => xs[i]?)) := by
  refine ⟨fun i _ hi q => ⟨xs, xs[i], q, List.getElem?_eq_getElem hi⟩, fun _ q => ⟨xs, q, Nat.le_refl _⟩, fun i H v H' _ q y => ?_⟩
  obtain ⟨T, z, e1, e2, e3, e4⟩ := y
  exact ⟨T, .int (c + (i : Nat)), z, e1, e2, e3, rfl, e4 xs q⟩
/-! ### min(xs) of ints, of pairs -/
theorem cr_minK {X : Cx} {K : PySem.W.Frag} (h : X.K = K) (hc : X.calm = true) : CallR X (.builtin "min") (rMin K) := h ▸ cr_min hc
theorem w_minL {K : PySem.W.Frag} {H : Hp} {Q : VK} {a : Addr} {ns : List Int} (h : SqL K H a (ns.map V.int)) (hn : 0 < ns.length) (q : ∀ m, m ∈ ns → (∀ y ∈ ns, m ≤ y) → Q (.int m) H) : rMin K [.ref a] H Q :=
  ⟨a, ns, rfl, h, hn, fun m h1 h2 => q m h1 h2⟩
theorem dec_pair {h : Heap} {v : Value} {i j i' j' : Int} {as bs : List Addr} (r : Reads h v (.tuple [.int i, .int j]) as) (r' : Reads h v (.tuple [.int i', .int j']) bs) : i = i' ∧ j = j' := by
  cases r with
  | @tuple a o vs n _ _ g c d ra =>
    cases r' with
    | @tuple _ o' vs' n' _ _ g' c' d' rb =>
      rw [g] at g'
      cases g'
      rw [d] at d'
      cases d'
      generalize vs.toList = us at ra rb
      cases ra with
      | cons r1 ra =>
        cases ra with
        | cons r2 ra =>
          cases rb with
          | cons r1' rb =>
            cases rb with
            | cons r2' rb =>
              cases r1
              cases r1'
              cases r2
              cases r2'
              exact ⟨rfl, rfl⟩
def leP (a b : Int × Int) : Prop := a.1 < b.1 ∨ (a.1 = b.1 ∧ a.2 ≤ b.2)
theorem minOf_le : ∀ (xs : List (Int × Int)) (x : Int × Int), leP (PySem.W.minOf x xs) x ∧ ∀ e ∈ xs, leP (PySem.W.minOf x xs) e
  | [], x => ⟨.inr ⟨rfl, Int.le_refl _⟩, fun e h => by simp at h⟩
  | y :: ys, x => by
    have key : ∀ z : Int × Int, leP z x → leP z y → PySem.W.minOf x (y :: ys) = PySem.W.minOf z ys → leP (PySem.W.minOf x (y :: ys)) x ∧ ∀ e ∈ y :: ys, leP (PySem.W.minOf x (y :: ys)) e := by
      intro z h1 h2 e
      rw [e]
      obtain ⟨g1, g2⟩ := minOf_le ys z
      have tr : ∀ u : Int × Int, leP z u → leP (PySem.W.minOf z ys) u := by
        intro u hu
        unfold leP at *
        omega
      refine ⟨tr _ h1, fun u hu => ?_⟩
      rcases List.mem_cons.mp hu with q | q
      · rw [q]; exact tr _ h2
      · exact g2 u q
    have lt_iff : ∀ a b : Int × Int, PySem.W.DatumOrd.lt a b = true ↔ (a.1 < b.1 ∨ (a.1 = b.1 ∧ a.2 < b.2)) := by
      intro a b
      show (if a.1 = b.1 then decide (a.2 < b.2) else decide (a.1 < b.1)) = true ↔ _
      split
      · rename_i e
        rw [decide_eq_true_eq]
        constructor
        · exact fun h => .inr ⟨e, h⟩
        · rintro (h | h)
          · omega
          · exact h.2
      · rw [decide_eq_true_eq]
        constructor
        · exact fun h => .inl h
        · rintro (h | h)
          · exact h
          · omega
    by_cases h : PySem.W.DatumOrd.lt y x = true
    · refine key y ?_ (.inr ⟨rfl, Int.le_refl _⟩) ?_
      · have := (lt_iff y x).mp h
        unfold leP
        omega
      · unfold PySem.W.minOf
        rw [List.foldl_cons, if_pos h]
    · refine key x (.inr ⟨rfl, Int.le_refl _⟩) ?_ ?_
      · have := mt (lt_iff y x).mpr h
        unfold leP
        omega
      · unfold PySem.W.minOf
        rw [List.foldl_cons, if_neg h]
theorem hold_pairs {X : Cx} {pins : List (Addr × Obj)} {σ : L2.St} {H : Hp} {s : Shared} (I : Inv X pins σ H s) : ∀ (pcs : List (Addr × Int × Int)) (us : List Value), (∀ e ∈ pcs, SqT X.K H e.1 [.int e.2.1, .int e.2.2]) → Vals (pcs.map fun e => V.ref e.1) us →
    PySem.W.HoldAll s.heap us (pcs.map (·.2))
  | [], _, _, r => by cases r; exact PySem.W.HoldAll.nil
  | e :: pcs, _, h, r => by
    cases r with
    | cons r rr =>
      refine PySem.W.HoldAll.cons ?_ (hold_pairs I pcs _ (fun e he => h e (List.mem_cons_of_mem _ he)) rr)
      exact Dp.reads I (.tuple [.int e.2.1, .int e.2.2]) _ _ (.tup (h e (List.mem_cons_self ..)) (.cons (.int _) (.cons (.int _) .nil))) r
def rMinP (K : PySem.W.Frag) : List V → Hp → VK → Prop := fun vs H Q => ∃ (a : Addr) (pcs : List (Addr × Int × Int)), vs = [V.ref a] ∧ SqL K H a (pcs.map fun e => V.ref e.1) ∧ (∀ e ∈ pcs, SqT K H e.1 [.int e.2.1, .int e.2.2]) ∧ pcs ≠ [] ∧
  ∀ e ∈ pcs, (∀ e' ∈ pcs, leP e.2 e'.2) → Q (.ref e.1) H
theorem cr_minP {X : Cx} {K : PySem.W.Frag} (hK : X.K = K) (hc : X.calm = true) (hu : X.A.units + 64 < cLine) : CallR X (.builtin "min") (rMinP K) := by
  subst hK
  intro pins s σ H vs us Q I r h
  obtain ⟨a, pcs, rfl, hs, hp, hne, q⟩ := h
  obtain ⟨its, rv, hl, _⟩ := I.list hs
  rw [Vals.ref1 r]
  have HA := hold_pairs I pcs its hp rv
  cases pcs with
  | nil => exact (hne rfl).elim
  | cons e pcs =>
    refine PySem.W.min_list_datum (x := e.2) (xs := pcs.map (·.2)) (I.ok.hd hc) hl.isList (vs := its.toArray) (by rw [List.toList_toArray]; exact HA) ?_ fun i v h' tk hi hv hk => ?_
    · show X.A.units + 1 + PySem.W.Datum.depth (Int × Int) < cLine
      have : PySem.W.Datum.depth (Int × Int) ≤ 2 := by decide
      omega
    · have hi2 : its[i]? = some v := by simpa using hi
      obtain ⟨ei, he1, rvi⟩ : ∃ ei, (e :: pcs)[i]? = some ei ∧ RelV (.ref ei.1) v := by
        have hlen := rv.length
        have hb := (List.getElem?_eq_some_iff.mp hi2).1
        have hb2 : i < (e :: pcs).length := by
          have hb3 : i < ((e :: pcs).map fun e => V.ref e.1).length := by omega
          simpa using hb3
        obtain ⟨u, g1, g2⟩ := rv.get (i := i) (x := .ref ((e :: pcs)[i]).1) (by rw [List.getElem?_map, List.getElem?_eq_getElem hb2]; rfl)
        rw [hi2] at g1
        cases g1
        exact ⟨_, List.getElem?_eq_getElem hb2, g2⟩
      have hm := List.mem_of_getElem? he1
      obtain ⟨as, r1⟩ := Dp.reads I (.tuple [.int ei.2.1, .int ei.2.2]) _ _ (.tup (hp ei hm) (.cons (.int _) (.cons (.int _) .nil))) rvi
      obtain ⟨bs, r2⟩ := hv
      have e2 := dec_pair (Reads.keeps hk r1) r2
      have e3 : ei.2 = PySem.W.minOf e.2 (pcs.map (·.2)) := Prod.ext e2.1 e2.2
      obtain ⟨g1, g2⟩ := minOf_le (pcs.map (·.2)) e.2
      refine ⟨.ref ei.1, H, I.kept hk, rvi, q ei hm fun e' he' => ?_⟩
      rw [e3]
      rcases List.mem_cons.mp he' with z | z
      · rw [z]; exact g1
      · exact g2 _ (List.mem_map.mpr ⟨e', z, rfl⟩)
theorem w_minP {K : PySem.W.Frag} {H : Hp} {Q : VK} {a : Addr} {pcs : List (Addr × Int × Int)} (h : SqL K H a (pcs.map fun e => V.ref e.1)) (hp : ∀ e ∈ pcs, SqT K H e.1 [.int e.2.1, .int e.2.2]) (hn : pcs ≠ [])
    (q : ∀ e ∈ pcs, (∀ e' ∈ pcs, leP e.2 e'.2) → Q (.ref e.1) H) : rMinP K [.ref a] H Q := ⟨a, pcs, rfl, h, hp, hn, q⟩
/-! ### xs[::-1] -/
theorem w_revL {K : PySem.W.Frag} {te : TE} {σ : L2.St} {H : Hp} {Q : VK} (q : te σ H fun x H1 => ∃ a xs, x = .ref a ∧ SqL K H1 a xs ∧ ∀ p, H1 p = none → Q (.ref p) (upd H1 p (.lst xs.reverse))) : tRevL K te σ H Q := q
theorem w_rev {K : PySem.W.Frag} {M : List Addr} {H0 H : Hp} {W : List (Addr × HO)} {a : Addr} {xs : List V} {Q : VK} (S : Tr M H0 H W) (h : SqL K H a xs) (k : ∀ p G, Tr M H0 G ((p, .lst xs.reverse) :: W) → Q (.ref p) G) :
    ∃ a' ys, V.ref a = .ref a' ∧ SqL K H a' ys ∧ ∀ p, H p = none → Q (.ref p) (upd H p (.lst ys.reverse)) := ⟨a, xs, rfl, h, fun p hp => k p _ (S.new hp)⟩
end VB
namespace VB
open PySem PySem.Spec PyProof.Rows L2
/-! ### what is walked, by an invariant, whatever the turn does -/
theorem walk_by {J : It} {n : Nat} {G : Hp → Prop} {Y : Nat → Hp → V → Hp → Prop} (w : Walk J n G Y) {H1 : Hp} {Qd : Hp → Prop} {B : (Hp → Prop) → V → Hp → Prop} (Pv : Nat → Hp → Prop) (h0 : Pv 0 H1) (hG : ∀ i H, i ≤ n → Pv i H → G H)
    (hs : ∀ i x H H', i < n → Pv i H → Y i H x H' → B (Pv (i + 1)) x H') (hd : ∀ H, Pv n H → Qd H) :
    ∃ W : Nat → Nat → Hp → Prop, (∃ m, W 0 m H1) ∧ ∀ i m H, W i m H → (J.stop i H ∧ Qd H) ∨ (J.go i H ∧ ∃ Nx : Hp → Prop, (∀ H', Nx H' → ∃ m', m' < m ∧ W (i + 1) m' H') ∧ ∀ x H', J.yld i H x H' → B Nx x H') := by
  refine ⟨fun i m H => m + i = n ∧ Pv i H, ⟨n, rfl, h0⟩, ?_⟩
  rintro i m H ⟨e, p⟩
  have g := hG i H (by omega) p
  cases m with
  | zero =>
    obtain rfl : i = n := by omega
    exact .inl ⟨w.stops H g, hd H p⟩
  | succ m => exact .inr ⟨w.goes i H (by omega) g, Pv (i + 1), fun H' p' => ⟨m, Nat.lt_succ_self m, by omega, p'⟩, fun x H' y => hs i x H H' (by omega) p (w.yields i H x H' (by omega) g y)⟩
theorem w_lc2 {wi wi1 : TI} {g g1 : TG} {tt tt1 : TT} {te : TE} {vs vs1 : List Nat} {σ : L2.St} {H : Hp} {Q : VK} (q : wi σ H fun J H1 => ∀ D, H1 D = none → ∃ W : Nat → Nat → Hp → Prop, (∃ m, W 0 m (upd H1 D (.lst []))) ∧ ∀ i m H, W i m H →
  (J.stop i H ∧ Q (.ref D) H) ∨ (J.go i H ∧ ∃ Nx : Hp → Prop, (∀ H', Nx H' → ∃ m', m' < m ∧ W (i + 1) m' H') ∧ ∀ x H', J.yld i H x H' → g x (wipe σ vs) H' fun σ2 H2 => wipe σ2 vs = wipe σ vs ∧ tt σ2 H2 fun b H3 =>
    if b = true then wi1 σ2 H3 fun J1 H4 => ∃ W1 : Nat → Nat → Hp → Prop, (∃ m, W1 0 m H4) ∧ ∀ j k H, W1 j k H →
      (J1.stop j H ∧ Nx H) ∨ (J1.go j H ∧ ∃ Nx1 : Hp → Prop, (∀ H', Nx1 H' → ∃ k', k' < k ∧ W1 (j + 1) k' H') ∧ ∀ x H', J1.yld j H x H' → g1 x (wipe σ2 vs1) H' fun σ3 H5 => wipe σ3 vs1 = wipe σ2 vs1 ∧ tt1 σ3 H5 fun b H6 =>
        if b = true then te σ3 H6 fun y H7 => ∃ acc, H7 D = some (.lst acc) ∧ acc.length < sizeLine ∧ Nx1 (upd H7 D (.lst (acc ++ [y]))) else Nx1 H6)
    else Nx H3)) : tLc2 wi g tt wi1 g1 tt1 te vs vs1 σ H Q := q
end VB
namespace VB
open PySem PySem.Spec PyProof.Rows L2
theorem ty_keep {H H' : Hp} {x : V} (S : Tr [] H H' []) : (∃ n, Ty H x n) → ∃ n, Ty H' x n := fun ⟨n, h⟩ => ⟨n, h.mono fun b o hb => S.fr b o hb List.not_mem_nil⟩
theorem lst_keep {H H' : Hp} {x : V} {a : Addr} {xs : List V} (S : Tr [] H H' []) (ty : ∃ n, Ty H x n) (e : x = .ref a) (h : H' a = some (.lst xs)) : H a = some (.lst xs) := by
  subst e
  obtain ⟨n, hty⟩ := ty
  cases hty with
  | lst k => have := S.fr _ _ k List.not_mem_nil; rw [h] at this; rw [this]; exact k
  | tup k => have := S.fr _ _ k List.not_mem_nil; rw [h] at this; cases this
  | dK k => have := S.fr _ _ k List.not_mem_nil; rw [h] at this; cases this
theorem chainV_keep {H H' : Hp} {ns : List Int} {x : V} (S : Tr [] H H' []) (ty : ∃ n, Ty H x n) : ChainV H ns x ↔ ChainV H' ns x := by
  constructor
  · rintro ⟨b, cs, rfl, h, hc⟩
    exact ⟨b, cs, rfl, S.fr _ _ h List.not_mem_nil, hc⟩
  · rintro ⟨b, cs, rfl, h, hc⟩
    exact ⟨b, cs, rfl, lst_keep S ty rfl h, hc⟩
theorem ty_ints_len {H : Hp} {a : Addr} {ns : List Int} (ha : H a = some (.lst (ns.map V.int))) (hl : ns.length ≤ 1000) : ∀ b xs, V.ref a = .ref b → H b = some (.lst xs) → xs.length ≤ 1000 ∧ ∀ z ∈ xs, ∃ n, Ty H z n := by
  intro b xs e hb
  refine ⟨?_, (ty_ints ha).2 b xs e hb⟩
  cases e
  rw [ha] at hb
  cases hb
  rw [List.length_map]
  exact hl
/-! ### a list of ints, not too long, the first one 0 -/
def linksL (xs : List V) : Bool := decide (1 ≤ xs.length) && decide (xs.length ≤ 150) && (xs.all isIntV && decide (xs.head? = some (.int 0)))
def linksV (H : Hp) : V → Bool
  | .ref a => match H a with
    | some (.lst xs) => linksL xs
    | _ => false
  | _ => false
theorem linksV_ref {H : Hp} {a : Addr} {xs : List V} (h : H a = some (.lst xs)) : linksV H (.ref a) = linksL xs := by simp only [linksV, h]
theorem linksV_inv {H : Hp} {x : V} (h : linksV H x = true) : ∃ (a : Addr) (ns : List Int), x = .ref a ∧ H a = some (.lst (ns.map V.int)) ∧ 1 ≤ ns.length ∧ ns.length ≤ 150 ∧ ns.head? = some 0 := by
  cases x with
  | ref a =>
    simp only [linksV] at h
    split at h
    · rename_i xs e
      unfold linksL at h
      simp only [Bool.and_eq_true, decide_eq_true_eq] at h
      obtain ⟨⟨h1, h2⟩, h3, h4⟩ := h
      obtain ⟨ns, rfl⟩ := ints_allV h3
      rw [List.length_map] at h1 h2
      refine ⟨a, ns, rfl, e, h1, h2, ?_⟩
      cases ns with
      | nil => simp at h1
      | cons n ns =>
        simp only [List.map_cons, List.head?_cons, Option.some.injEq] at h4
        rw [V.int.inj h4]
        rfl
    · cases h
  | _ => simp [linksV] at h
theorem Form.links {ns : List Int} (h : Form ns) : linksL (ns.map V.int) = true := by
  unfold linksL
  have h1 := h.1
  have h2 := h.2.1
  rw [isIntV_ints, List.length_map, decide_eq_true h1, decide_eq_true h2]
  cases ns with
  | nil => simp at h1
  | cons n ns =>
    have := h.2.2 0 (by simp)
    simp at this
    have e : n = 0 := by omega
    subst e
    simp
theorem linksV_of_form {H : Hp} {x : V} (h : formV H x = true) : linksV H x = true := by
  cases x with
  | ref a =>
    simp only [formV] at h
    split at h
    · rename_i xs e
      obtain ⟨ns, rfl, hF⟩ := formL_is_ints h
      rw [linksV_ref e]
      exact hF.links
    · cases h
  | _ => simp [formV] at h
theorem form_of_head {ns : List Int} (h1 : 1 ≤ ns.length) (h2 : ns.length ≤ 150) (h0 : ns.head? = some 0) (h : ∀ k : Nat, k + 1 < ns.length → 0 ≤ at0 ns (k + 1) ∧ at0 ns (k + 1) < k + 1) : Form ns := by
  refine ⟨h1, h2, fun i hi => ?_⟩
  cases i with
  | zero =>
    cases ns with
    | nil => simp at h1
    | cons n ns =>
      simp only [List.head?_cons, Option.some.injEq] at h0
      subst h0
      simp
      omega
  | succ k =>
    have := h k hi
    rw [show ((k : Int) + 1) = ((k + 1 : Nat) : Int) by omega, at0_get hi] at this
    omega
/-! ### the allowed targets, from the newest entry down by links -/
theorem allow_down {ns : List Int} (hL : Log ns) {t : Int} (ha : Allow ns t) (h1 : 1 ≤ t) : Allow ns (at0 ns t) ∧ at0 ns t < t ∧ ∀ u, Allow ns u → u < t → u ≤ at0 ns t := by
  obtain ⟨n, rfl⟩ : ∃ n : Nat, t = (n : Int) := ⟨t.toNat, by omega⟩
  have hn : n < ns.length := by have := ha.2.1; omega
  have hg : ns[n]? = some (at0 ns (n : Int)) := at0_n rfl hn
  have hlt : at0 ns (n : Int) < n := by rw [at0_get hn]; exact hL.form.lt hn (by omega)
  have h0 : 0 ≤ at0 ns (n : Int) := by rw [at0_get hn]; exact (hL.form.nat hn).1
  generalize at0 ns (n : Int) = l at *
  refine ⟨⟨h0, by omega, fun i a hi hx => ?_⟩, hlt, fun u hu hut => hu.2.2 n l hut hg⟩
  by_cases q1 : (n : Int) < i
  · have := ha.2.2 i a q1 hx; omega
  · by_cases q2 : i = n
    · subst q2; rw [hg] at hx; cases hx; omega
    · apply Classical.byContradiction
      intro q3
      exact hL.nc i n ⟨by omega, by omega, a, l, hx, hg, by omega, hi⟩
end VB
namespace VB
open PySem PySem.Spec PyProof.Rows L2
/-! ### the greatest common entry of two shortest chains -/
def Top (cs ds : List Int) : Option Int → Prop
  | none => ∀ c, c ∈ cs → c ∈ ds → False
  | some m => m ∈ cs ∧ m ∈ ds ∧ ∀ c, c ∈ cs → c ∈ ds → c ≤ m
theorem Top.max {cs ds : List Int} : ∀ {r : Option Int}, Top cs ds r → MaxO (cs.filter fun c => decide (c ∈ ds)) r
  | none, h => List.filter_eq_nil_iff.mpr fun c hc hd => h c hc (by simpa using hd)
  | some m, h => ⟨List.mem_filter.mpr ⟨h.1, decide_eq_true h.2.1⟩, fun c hc => by
    have := List.mem_filter.mp hc
    exact h.2.2 c this.1 (by simpa using this.2)⟩
theorem Top.symm {cs ds : List Int} : ∀ {r : Option Int}, Top cs ds r → Top ds cs r
  | none, h => fun c h1 h2 => h c h2 h1
  | some m, h => ⟨h.2.1, h.1, fun c h1 h2 => h.2.2 c h2 h1⟩
theorem FC.thru {ns : List Int} {e x : Int} (hF : Form ns) (he : 0 ≤ e) (hx : e ≤ x) : ∀ {s : Int} {cs : List Int}, FC ns e s cs → s < ns.length → x ≤ s → (∀ i, x < i → i ≤ s → x ≤ at0 ns i) → x ∈ cs := by
  intro s cs h
  induction h with
  | one => intro _ h1 _; simp; omega
  | @link s cs h hl t ih =>
    intro hs h1 hp
    by_cases q : x = s
    · simp [q]
    · have b := at0_lt hF (i := s) (by omega) hs
      have := hp s (by omega) (Int.le_refl _)
      exact List.mem_cons_of_mem _ (ih (by omega) this fun i g1 g2 => hp i g1 (by omega))
  | @step s cs h hl t ih =>
    intro hs h1 hp
    by_cases q : x = s
    · simp [q]
    · exact List.mem_cons_of_mem _ (ih (by omega) (by omega) fun i g1 g2 => hp i g1 (by omega))
end VB
namespace VB
open PySem PySem.Spec PyProof.Rows L2
/-! ### the reel that laws draw from -/
def ReelO (n : Nat) (o : HO) : Prop := ∃ a b c : Int, o = .lst [.int a, .int b, .int c] ∧ 0 ≤ a ∧ 0 ≤ b ∧ b < 2 ^ 150 ∧ 0 ≤ c ∧ c ≤ n
theorem ReelO.le {n m : Nat} {o : HO} (h : ReelO n o) (hm : n ≤ m) : ReelO m o := by
  obtain ⟨a, b, c, e, h1, h2, h3, h4, h5⟩ := h
  exact ⟨a, b, c, e, h1, h2, h3, h4, by omega⟩
end VB

namespace VB
open PySem PySem.Spec PyProof.Rows L2
/-! ### great ints shown -/
theorem shown_gr {i : Int} (h : i.natAbs < 10 ^ 100) : Shown (.int i) := by
  refine ⟨rfl, Nat.zero_le _, ?_, ?_⟩
  · rw [PyData.showable]
    exact decide_eq_true (log2_1920 (b := 400) (Nat.lt_trans h (by decide)) (by decide) (by decide))
  · have e := PySem.int_text_length_le10 (k := 100) (by decide) h
    show (Str.ofString (toString i)).length ≤ sizeLine
    rw [PySem.ofString_length]
    exact Nat.le_trans e (by decide)
theorem w_reprH {K : PySem.W.Frag} {H : Hp} {Q : VK} {i : Int} (h : i.natAbs < 10 ^ 100) (q : Q (.str (PyData.shown (.int i))) H) : rRepr K [.int i] H Q := ⟨_, _, rfl, .int i, shown_gr h, q⟩
/-! ### the greatest power of a base that divides a number -/
def GP (b n r : Int) : Prop := (∃ k : Nat, r = b ^ k) ∧ (∃ m, n = r * m) ∧ ¬ ∃ m, n = r * b * m
theorem GP.pos {b n r : Int} (hb : 2 ≤ b) (h : GP b n r) : 1 ≤ r := by
  obtain ⟨⟨k, rfl⟩, _, _⟩ := h
  exact Int.pow_pos (by omega)
theorem GP.le {b n r : Int} (hb : 2 ≤ b) (hn : 1 ≤ n) (h : GP b n r) : r ≤ n := by
  have h1 := h.pos hb
  obtain ⟨_, ⟨m, e⟩, _⟩ := h
  have hm : 1 ≤ m := by
    apply Classical.byContradiction
    intro q
    have : r * m ≤ 0 := Int.mul_nonpos_of_nonneg_of_nonpos (by omega) (by omega)
    omega
  rw [e]
  have := Int.mul_le_mul_of_nonneg_left hm (show 0 ≤ r by omega)
  omega
theorem GP.uniq {b n r s : Int} (hb : 2 ≤ b) (h : GP b n r) (h' : GP b n s) : r = s := by
  obtain ⟨⟨k, rfl⟩, d1, n1⟩ := h
  obtain ⟨⟨j, rfl⟩, d2, n2⟩ := h'
  have key : ∀ {k j : Nat}, k < j → (∃ m, n = b ^ j * m) → ∃ m, n = b ^ k * b * m := by
    rintro k j hkj ⟨m, e⟩
    obtain ⟨i, rfl⟩ : ∃ i, j = k + 1 + i := ⟨j - (k + 1), by omega⟩
    refine ⟨b ^ i * m, ?_⟩
    rw [e, Int.pow_add, Int.pow_succ]
    simp only [Int.mul_assoc]
  rcases Nat.lt_trichotomy k j with q | q | q
  · exact (n1 (key q d2)).elim
  · rw [q]
  · exact (n2 (key q d1)).elim
theorem dvd_iff {n p : Int} (hp : 0 < p) : n % p = 0 ↔ ∃ m, n = p * m := by
  constructor
  · intro h
    refine ⟨n / p, ?_⟩
    have := Int.mul_ediv_add_emod n p
    omega
  · rintro ⟨m, rfl⟩
    exact Int.mul_emod_right _ _
/-- numbers of a base, the last digit first -/
def val (b : Int) : List Int → Int
  | [] => 0
  | d :: ds => d + b * val b ds
theorem val_app (b : Int) : ∀ (ds es : List Int), val b (ds ++ es) = val b ds + b ^ ds.length * val b es
  | [], es => by simp [val]
  | d :: ds, es => by
    rw [List.cons_append, val, val, val_app b ds es, List.length_cons, Int.pow_succ, Int.mul_add, Int.add_assoc]
    congr 2
    rw [← Int.mul_assoc, Int.mul_comm b]
theorem val_zero (b : Int) : ∀ {ds : List Int}, (∀ d ∈ ds, d = 0) → val b ds = 0
  | [], _ => rfl
  | d :: ds, h => by
    rw [val, h d (List.mem_cons_self ..), val_zero b fun e he => h e (List.mem_cons_of_mem _ he)]
    simp
/-- the digits, the last one that isn't 0 lowered -/
theorem val_lower {b n : Int} {ds : List Int} {at_ : Nat} {d : Int} (hb : 2 ≤ b) (hn : 1 ≤ n) (hv : val b ds = n) (hd : ∀ e ∈ ds, 0 ≤ e ∧ e < b) (hz : ∀ i, i < at_ → ds[i]? = some 0) (ha : ds[at_]? = some d) (h0 : d ≠ 0) :
    GP b n (b ^ at_) ∧ val b (ds.set at_ (d - 1)) = n - b ^ at_ := by
  have hlt := (List.getElem?_eq_some_iff.mp ha).1
  have hdm := hd d (List.mem_of_getElem? ha)
  have e1 : ds = ds.take at_ ++ d :: ds.drop (at_ + 1) := by
    have := (List.getElem?_eq_some_iff.mp ha).2
    rw [← this]
    exact (List.take_append_drop at_ ds).symm.trans (by rw [List.drop_eq_getElem_cons hlt])
  have hlen : (ds.take at_).length = at_ := by rw [List.length_take]; omega
  have hz2 : ∀ e ∈ ds.take at_, e = 0 := by
    intro e he
    obtain ⟨i, hi, q⟩ := List.mem_iff_getElem.mp he
    rw [List.length_take] at hi
    have := hz i (by omega)
    rw [List.getElem_take] at q
    rw [List.getElem?_eq_getElem (by omega), q] at this
    exact Option.some.inj this
  have e2 : ds.set at_ (d - 1) = ds.take at_ ++ (d - 1) :: ds.drop (at_ + 1) := by
    rw [List.set_eq_take_append_cons_drop, if_pos hlt]
  have e3 : n = b ^ at_ * (d + b * val b (ds.drop (at_ + 1))) := by
    rw [← hv]
    conv => lhs; rw [e1]
    rw [val_app, val_zero b hz2, hlen, val]
    omega
  refine ⟨⟨⟨at_, rfl⟩, ⟨_, e3⟩, ?_⟩, ?_⟩
  · rintro ⟨m, e⟩
    have hp : (0 : Int) < b ^ at_ := Int.pow_pos (by omega)
    have h1 : d + b * val b (ds.drop (at_ + 1)) = b * m := by
      apply Int.eq_of_mul_eq_mul_left (show b ^ at_ ≠ 0 by omega)
      rw [← e3, e, Int.mul_assoc]
    have h2 : d % b = 0 := by
      rw [show d = b * (m - val b (ds.drop (at_ + 1))) by rw [Int.mul_sub]; omega]
      exact Int.mul_emod_right _ _
    rw [Int.emod_eq_of_lt hdm.1 hdm.2] at h2
    exact h0 h2
  · rw [e2, val_app, val_zero b hz2, hlen, val, e3, Int.zero_add]
    rw [show d - 1 + b * val b (ds.drop (at_ + 1)) = (d + b * val b (ds.drop (at_ + 1))) - 1 by omega, Int.mul_sub, Int.mul_one]
theorem val_back (b : Int) : ∀ (ds : List Int) (j : Nat), j ≤ ds.length → val b (ds.drop (ds.length - j)) = (ds.reverse.take j).foldl (fun f d => f * b + d) 0 := by
  intro ds j
  induction j with
  | zero => intro _; simp [val]
  | succ j ih =>
    intro h
    have h1 : ds.length - (j + 1) < ds.length := by omega
    have h2 : j < ds.reverse.length := by rw [List.length_reverse]; omega
    rw [List.drop_eq_getElem_cons h1, val, show ds.length - (j + 1) + 1 = ds.length - j by omega, ih (by omega)]
    rw [List.take_succ, List.getElem?_eq_getElem h2, List.foldl_append]
    simp only [Option.toList_some, List.foldl_cons, List.foldl_nil]
    have e : ds.reverse[j] = ds[ds.length - (j + 1)] := by
      rw [List.getElem_reverse]
      simp only [show ds.length - 1 - j = ds.length - (j + 1) by omega]
    rw [e, Int.mul_comm, Int.add_comm]
/-! ### the length of the shortest chain in a ruler log -/
inductive GL (b e : Int) : Int → Int → Prop
  | zero : GL b e e 0
  | link {s r n : Int} (h : e < s) (g : GP b s r) (l : e ≤ s - r) (t : GL b e (s - r) n) : GL b e s (n + 1)
  | step {s r n : Int} (h : e < s) (g : GP b s r) (l : s - r < e) (t : GL b e (s - 1) n) : GL b e s (n + 1)
theorem GL.uniq {b e s n m : Int} (hb : 2 ≤ b) (h : GL b e s n) : GL b e s m → n = m := by
  induction h generalizing m with
  | zero => intro g; cases g with | zero => rfl | link h _ _ _ => omega | step h _ _ _ => omega
  | link h g l t ih =>
    intro k
    cases k with
    | zero => omega
    | link h' g' l' t' => cases g.uniq hb g'; rw [ih t']
    | step h' g' l' t' => cases g.uniq hb g'; omega
  | step h g l t ih =>
    intro k
    cases k with
    | zero => omega
    | link h' g' l' t' => cases g.uniq hb g'; omega
    | step h' g' l' t' => rw [ih t']
theorem GL.nonneg {b e s n : Int} (h : GL b e s n) : 0 ≤ n := by induction h <;> omega
theorem pw_pos {b : Int} (hb : 2 ≤ b) (k : Nat) : 1 ≤ b ^ k := Int.pow_pos (by omega)
theorem emod_pred {b y : Int} (hb : 2 ≤ b) (h : 1 ≤ y % b) : (y - 1) % b = y % b - 1 := by
  have h1 := Int.mul_ediv_add_emod y b
  have h2 := Int.emod_lt_of_pos y (show 0 < b by omega)
  have e : y - 1 = (y % b - 1) + b * (y / b) := by omega
  rw [e, Int.add_mul_emod_self_left, Int.emod_eq_of_lt (by omega) (by omega)]
theorem emod_back {b y : Int} (hb : 2 ≤ b) (h : y % b = 0) : (y - 1) % b = b - 1 := by
  have h1 := Int.mul_ediv_add_emod y b
  have e : y - 1 = (b - 1) + b * (y / b - 1) := by rw [Int.mul_sub]; omega
  rw [e, Int.add_mul_emod_self_left, Int.emod_eq_of_lt (by omega) (by omega)]
/-- a power that divides, its digit not 0, is the greatest one -/
theorem gp_digit {b y : Int} {k : Nat} (hb : 2 ≤ b) (h : 1 ≤ y % b) : GP b (b ^ k * y) (b ^ k) := by
  refine ⟨⟨k, rfl⟩, ⟨y, rfl⟩, ?_⟩
  rintro ⟨m, e⟩
  have hp := pw_pos hb k
  have : y = b * m := Int.eq_of_mul_eq_mul_left (show b ^ k ≠ 0 by omega) (by rw [e, Int.mul_assoc])
  rw [this, Int.mul_emod_right] at h
  omega
/-- several links of one power -/
theorem GL.many {b e : Int} {k : Nat} (hb : 2 ≤ b) : ∀ (m : Nat) (y n : Int), (m : Int) ≤ y % b → e ≤ b ^ k * (y - m) → GL b e (b ^ k * (y - m)) n → GL b e (b ^ k * y) (n + m)
  | 0, y, n, _, _, h => by simpa using h
  | m + 1, y, n, h1, h2, h3 => by
    have hp := pw_pos hb k
    have e1 : y - ((m + 1 : Nat) : Int) = (y - 1) - m := by omega
    rw [e1] at h2 h3
    have hd := emod_pred hb (y := y) (by omega)
    have t := GL.many hb m (y - 1) n (by omega) h2 h3
    have e2 : b ^ k * (y - 1) = b ^ k * y - b ^ k := by rw [Int.mul_sub, Int.mul_one]
    have h4 : b ^ k * (y - 1 - m) ≤ b ^ k * (y - 1) := Int.mul_le_mul_of_nonneg_left (by omega) (by omega)
    rw [e2] at t h4
    have := GL.link (b := b) (e := e) (s := b ^ k * y) (by omega) (gp_digit hb (by omega)) (by omega) t
    rw [show n + ((m + 1 : Nat) : Int) = n + m + 1 by omega]
    exact this
/-- the rows of lower digits, all the greatest ones, are lowered to 0 -/
theorem GL.fall {b e x : Int} (hb : 2 ≤ b) : ∀ (k : Nat) (n : Int), (∃ m, x = b ^ k * m) → e ≤ x - b ^ k → GL b e (x - b ^ k) n → GL b e (x - 1) (n + k * (b - 1))
  | 0, n, _, _, h => by simpa using h
  | k + 1, n, ⟨m, hx⟩, h1, h2 => by
    have hp := pw_pos hb k
    have hpb : b ^ k ≤ b ^ (k + 1) := by
      rw [Int.pow_succ]
      have := Int.mul_le_mul_of_nonneg_left (show (1 : Int) ≤ b by omega) (show 0 ≤ b ^ k by omega)
      omega
    have hx2 : x = b ^ k * (b * m) := by rw [hx, Int.pow_succ, Int.mul_assoc]
    have e1 : x - b ^ k = b ^ k * (b * m - 1) := by rw [hx2, Int.mul_sub, Int.mul_one]
    have e2 : x - b ^ (k + 1) = b ^ k * ((b * m - 1) - ((b - 1).toNat : Int)) := by
      rw [hx2, Int.pow_succ, show ((b - 1).toNat : Int) = b - 1 by omega, show b * m - 1 - (b - 1) = b * m - b by omega, Int.mul_sub]
    have hd : (b * m - 1) % b = b - 1 := emod_back hb (Int.mul_emod_right _ _)
    rw [e2] at h1 h2
    have t := GL.many (k := k) hb (b - 1).toNat (b * m - 1) n (by omega) h1 h2
    rw [← e1] at t
    have u := GL.fall hb k (n + ((b - 1).toNat : Int)) ⟨b * m, hx2⟩ (by rw [← e2] at h1; omega) t
    have : n + ((k + 1 : Nat) : Int) * (b - 1) = n + ((b - 1).toNat : Int) + k * (b - 1) := by
      rw [show ((b - 1).toNat : Int) = b - 1 by omega, show ((k + 1 : Nat) : Int) = (k : Int) + 1 by omega, Int.add_mul]
      omega
    rw [this]
    exact u
theorem gp_ex {b n : Int} (hb : 2 ≤ b) (hn : 1 ≤ n) {k : Nat} (hd : ∃ m, n = b ^ k * m) : ∃ r, GP b n r ∧ b ^ k ≤ r := by
  have key : ∀ (f : Nat) (k : Nat), n - b ^ k ≤ f → (∃ m, n = b ^ k * m) → ∃ r, GP b n r ∧ b ^ k ≤ r := by
    intro f
    induction f with
    | zero =>
      intro k hf hd
      refine ⟨b ^ k, ⟨⟨k, rfl⟩, hd, ?_⟩, Int.le_refl _⟩
      rintro ⟨m, e⟩
      have hp := pw_pos hb k
      have h2 : b ^ k * b ≤ n := Int.le_of_dvd (by omega) ⟨m, e⟩
      have h3 : b ^ k * 2 ≤ b ^ k * b := Int.mul_le_mul_of_nonneg_left hb (by omega)
      omega
    | succ f ih =>
      intro k hf hd
      have hp := pw_pos hb k
      by_cases q : ∃ m, n = b ^ k * b * m
      · have h3 : b ^ k * 2 ≤ b ^ k * b := Int.mul_le_mul_of_nonneg_left hb (by omega)
        obtain ⟨r, g, h⟩ := ih (k + 1) (by rw [Int.pow_succ]; omega) (by rw [Int.pow_succ]; exact q)
        rw [Int.pow_succ] at h
        exact ⟨r, g, by omega⟩
      · exact ⟨b ^ k, ⟨⟨k, rfl⟩, hd, q⟩, Int.le_refl _⟩
  exact key (n - b ^ k).toNat k (by omega) hd
/-- what the digits of a distance tell, from the last one on -/
inductive SL (b : Int) : Nat → Int → Int → Prop
  | zero {k : Nat} : SL b k 0 0
  | more {k : Nat} {d n : Int} (h : 0 < d) (t : SL b (k + 1) (d / b) n) : SL b k d ((if 0 < d % b then (b - 1) * k + d % b else 0) + n)
theorem SL.walk {b e : Int} (hb : 2 ≤ b) (he : 0 ≤ e) {k : Nat} {d n : Int} (h : SL b k d n) : ∀ (x : Int) (j : Nat), (∃ m, x = b ^ j * m) → x - e < b ^ j → d * b ^ k ≤ x - e → x - e < (d + 1) * b ^ k → 0 ≤ d →
    ∀ m, GL b e (x - d * b ^ k) m → GL b e x (n + m) := by
  induction h with
  | zero => intro x j _ _ _ _ _ m t; simpa using t
  | @more k d n hd t ih =>
    intro x j hx h1 h2 h3 h4 m g
    have hp := pw_pos hb k
    have q1 := Int.mul_ediv_add_emod d b
    have q2 := Int.emod_nonneg d (show b ≠ 0 by omega)
    have q3 := Int.emod_lt_of_pos d (show 0 < b by omega)
    have q4 : 0 ≤ d / b := Int.ediv_nonneg (by omega) (by omega)
    generalize d / b = u at *
    generalize d % b = v at *
    have hps : b ^ (k + 1) = b ^ k * b := Int.pow_succ ..
    have e1 : d * b ^ k = u * b ^ (k + 1) + v * b ^ k := by
      rw [hps, ← q1, Int.add_mul, Int.mul_comm b u, Int.mul_assoc, Int.mul_comm b]
    have hv : v * b ^ k ≤ (b - 1) * b ^ k := Int.mul_le_mul_of_nonneg_right (by omega) (by omega)
    have hv0 : 0 ≤ v * b ^ k := Int.mul_nonneg q2 (by omega)
    have e2 : (b - 1) * b ^ k = b ^ (k + 1) - b ^ k := by rw [hps, Int.sub_mul, Int.one_mul, Int.mul_comm]
    have e3 : (d + 1) * b ^ k = d * b ^ k + b ^ k := by rw [Int.add_mul, Int.one_mul]
    have e4 : (u + 1) * b ^ (k + 1) = u * b ^ (k + 1) + b ^ (k + 1) := by rw [Int.add_mul, Int.one_mul]
    have ihx := ih x j hx h1 (by omega) (by omega) q4
    have hle : e ≤ x - d * b ^ k := by omega
    by_cases hv2 : 0 < v
    · rw [if_pos hv2]
      have hvk : 1 * b ^ k ≤ v * b ^ k := Int.mul_le_mul_of_nonneg_right (by omega) (by omega)
      rw [Int.one_mul] at hvk
      have hu0 : 0 ≤ u * b ^ (k + 1) := Int.mul_nonneg q4 (by have := pw_pos hb (k + 1); omega)
      -- b ^ (k + 1) divides x
      have hjk : k + 1 ≤ j := by
        apply Classical.byContradiction
        intro z
        obtain ⟨i, rfl⟩ : ∃ i, k = j + i := ⟨k - j, by omega⟩
        have := pw_pos hb i
        have h5 : b ^ (j + i) = b ^ j * b ^ i := Int.pow_add ..
        have h6 : b ^ j * 1 ≤ b ^ j * b ^ i := Int.mul_le_mul_of_nonneg_left this (by have := pw_pos hb j; omega)
        omega
      obtain ⟨i, rfl⟩ : ∃ i, j = k + 1 + i := ⟨j - (k + 1), by omega⟩
      obtain ⟨mx, hx⟩ := hx
      have hx1 : x - u * b ^ (k + 1) = b ^ (k + 1) * (b ^ i * mx - u) := by
        rw [hx, Int.pow_add, Int.mul_sub, Int.mul_assoc, Int.mul_comm u]
      generalize hy : x - u * b ^ (k + 1) = y at *
      have hyd : ∃ m, y = b ^ k * m := ⟨b * (b ^ i * mx - u), by rw [hx1, hps, Int.mul_assoc]⟩
      have gx : GL b e y (m + (v - 1) + k * (b - 1) + 1) := by
        obtain ⟨r, gr, hr⟩ := gp_ex hb (n := y) (by omega) (k := k + 1) ⟨_, hx1⟩
        refine GL.step (by omega) gr (by omega) ?_
        refine GL.fall hb k _ hyd (by omega) ?_
        have hd1 : (b * (b ^ i * mx - u) - 1) % b = b - 1 := emod_back hb (Int.mul_emod_right _ _)
        have e5 : y - b ^ k = b ^ k * (b * (b ^ i * mx - u) - 1) := by rw [hx1, hps, Int.mul_sub (b ^ k), Int.mul_one, Int.mul_assoc]
        have e6 : b ^ k * (b * (b ^ i * mx - u) - 1 - ((v - 1).toNat : Int)) = x - d * b ^ k := by
          rw [show ((v - 1).toNat : Int) = v - 1 by omega, Int.mul_sub, ← e5, Int.mul_sub, Int.mul_one, Int.mul_comm (b ^ k) v]
          omega
        rw [e5]
        have := GL.many (k := k) hb (v - 1).toNat (b * (b ^ i * mx - u) - 1) m (by rw [hd1]; omega) (by rw [e6]; exact hle) (by rw [e6]; exact g)
        rw [show ((v - 1).toNat : Int) = v - 1 by omega] at this
        exact this
      have := ihx _ gx
      rw [show (b - 1) * (k : Int) + v + n + m = n + (m + (v - 1) + k * (b - 1) + 1) by rw [Int.mul_comm (b - 1)]; omega]
      exact this
    · rw [if_neg hv2, Int.zero_add]
      have : v = 0 := by omega
      subst this
      exact ihx m (by rw [show x - u * b ^ (k + 1) = x - d * b ^ k by rw [e1]; omega]; exact g)
theorem SL.nonneg {b : Int} (hb : 2 ≤ b) {k : Nat} {d n : Int} (h : SL b k d n) : 0 ≤ n := by
  induction h with
  | zero => exact Int.le_refl _
  | @more k d n h t ih =>
    split
    · have := Int.mul_nonneg (show 0 ≤ b - 1 by omega) (show (0 : Int) ≤ k by omega)
      omega
    · omega
theorem GL.le {b e s n : Int} (hb : 2 ≤ b) (h : GL b e s n) : n ≤ s - e := by
  induction h with
  | zero => omega
  | link h g l t ih => have := g.pos hb; omega
  | step h g l t ih => omega
end VB

namespace VB
open PySem PySem.Spec PyProof.Rows L2
/-! ### xs.count(b), bools -/
theorem hold_bools {h : Heap} : ∀ (bs : List Bool) (us : List Value), Vals (bs.map V.bl) us → PySem.W.HoldAll h us bs
  | [], _, r => by cases r; exact PySem.W.HoldAll.nil
  | b :: bs, _, r => by
    cases r with
    | cons r rr =>
      cases r
      exact PySem.W.HoldAll.cons (PySem.W.holds_bool b) (hold_bools bs _ rr)
def rCntB (K : PySem.W.Frag) : V → List V → Hp → VK → Prop := fun x xs H Q => ∃ (p : Addr) (bs : List Bool) (k : Bool), x = .ref p ∧ xs = [.bl k] ∧ SqL K H p (bs.map V.bl) ∧ Q (.int (bs.countP fun y => decide (y = k) : Nat)) H
theorem mt_countB {X : Cx} {K : PySem.W.Frag} (hK : X.K = K) (hu : X.A.units + 64 < cLine) : MtR X "list.count" (rCntB K) := by
  subst hK
  intro pins s σ H x xs v us Q I rx rxs h
  obtain ⟨p, bs, k, rfl, rfl, hs, q⟩ := h
  cases rx
  obtain ⟨u, rfl, ru⟩ := rxs.one
  cases ru
  obtain ⟨its, rv, pl, _⟩ := I.list hs
  refine PySem.W.count_list_datum (xs := bs) (x := k) (vs := its.toArray) pl.isList (by rw [List.toList_toArray]; exact hold_bools bs its rv) (PySem.W.holds_bool k) ?_ ⟨.int _, H, I.tok _, ⟨_, rfl⟩, q⟩
  show X.A.units + 1 + 0 < cLine
  omega
theorem w_cntB {K : PySem.W.Frag} {H : Hp} {Q : VK} {p : Addr} {bs : List Bool} {k : Bool} (h : SqL K H p (bs.map V.bl)) (q : Q (.int (bs.countP fun y => decide (y = k) : Nat)) H) : rCntB K (.ref p) [.bl k] H Q := ⟨p, bs, k, rfl, rfl, h, q⟩
/-! ### lists of bools shown -/
theorem dp_bools {K : PySem.W.Frag} {H : Hp} : ∀ bs : List Bool, DpAll K H (bs.map V.bl) (bs.map PyData.bool)
  | [] => .nil
  | b :: bs => .cons (.bl b) (dp_bools bs)
theorem lay_bools : ∀ bs : List Bool, PyData.canLayAll0 (bs.map PyData.bool) = true
  | [] => rfl
  | b :: bs => by rw [List.map_cons, PyData.canLayAll0, lay_bools bs]; rfl
theorem dep_bools : ∀ bs : List Bool, PyData.depthAll (bs.map PyData.bool) = 0
  | [] => rfl
  | b :: bs => by rw [List.map_cons, PyData.depthAll, dep_bools bs]; rfl
theorem w_repr2b {K : PySem.W.Frag} {H : Hp} {Q : VK} {a : Addr} {b c : Bool} (h : SqL K H a [.bl b, .bl c]) (q : Q (.str (PyData.shown (.list [.bool b, .bool c]))) H) : rRepr K [.ref a] H Q := by
  refine ⟨_, _, rfl, .lst h (dp_bools [b, c]), ?_, q⟩
  cases b <;> cases c <;> exact shown_of rfl (by decide) rfl rfl (by decide)
/-! ### two lists of ints in one list, shown -/
theorem shown_2L {ns ms : List Int} (h1 : ∀ n ∈ ns, n.natAbs < 10 ^ 12) (h2 : ∀ n ∈ ms, n.natAbs < 10 ^ 12) (l1 : ns.length ≤ 1000) (l2 : ms.length ≤ 1000) : Shown (.list [.list (ns.map PyData.int), .list (ms.map PyData.int)]) := by
  have c1 := canLay_ints ns
  have c2 := canLay_ints ms
  have w1 := weight_ints ns h1
  have w2 := weight_ints ms h2
  refine shown_of ?_ ?_ ?_ ?_ ?_
  · simp only [PyData.canLay0, PyData.canLayAll0, c1, c2, Bool.and_self]
  · simp only [PyData.depth, PyData.depthAll, depth_ints]; decide
  · simp only [PyData.showable, PyData.showableAll, showable_ints ns h1, showable_ints ms h2, Bool.and_self]
  · simp only [PyData.intsShort, PyData.intsShortAll, PyData.intsShortAll_ints ns h1, PyData.intsShortAll_ints ms h2, Bool.and_self]
  · simp only [PyData.weight, PyData.weightAll]; omega
theorem w_repr2L {K : PySem.W.Frag} {H : Hp} {Q : VK} {p a b : Addr} {ns ms : List Int} (h : SqL K H p [.ref a, .ref b]) (ha : SqL K H a (ns.map V.int)) (hb : SqL K H b (ms.map V.int)) (h1 : ∀ n ∈ ns, n.natAbs < 10 ^ 12) (h2 : ∀ n ∈ ms, n.natAbs < 10 ^ 12) (l1 : ns.length ≤ 1000) (l2 : ms.length ≤ 1000)
    (q : Q (.str (PyData.shown (.list [.list (ns.map PyData.int), .list (ms.map PyData.int)]))) H) : rRepr K [.ref p] H Q :=
  ⟨_, _, rfl, .lst h (.cons (dp_ints ha) (.cons (dp_ints hb) .nil)), shown_2L h1 h2 l1 l2, q⟩
end VB
namespace VB
open PySem PySem.Spec PyProof.Rows L2
/-! ### the log of links to entry 0, the log of steps -/
theorem log_zeros {n : Nat} (h1 : 1 ≤ n) (h2 : n ≤ 150) : Log (List.replicate n (0 : Int)) := by
  refine ⟨⟨by simpa using h1, by simpa using h2, fun i hi => by simp; omega⟩, ?_⟩
  rintro i j ⟨_, _, a, b, h3, h4, h5, _⟩
  rw [List.getElem?_replicate] at h3 h4
  split at h3 <;> split at h4 <;> cases h3 <;> cases h4
  omega
def stepsL (n : Nat) : List Int := (List.range n).map fun i : Nat => max 0 ((i : Int) - 1)
theorem steps_get {n i : Nat} (h : i < n) : (stepsL n)[i]? = some (max 0 ((i : Int) - 1)) := by simp [stepsL, h]
theorem steps_len {n : Nat} : (stepsL n).length = n := by simp [stepsL]
theorem log_steps {n : Nat} (h1 : 1 ≤ n) (h2 : n ≤ 150) : Log (stepsL n) := by
  refine ⟨⟨by rw [steps_len]; exact h1, by rw [steps_len]; exact h2, fun i hi => by simp [stepsL]; omega⟩, ?_⟩
  rintro i j ⟨_, hij, a, b, h3, h4, h5, h6⟩
  have hj := (List.getElem?_eq_some_iff.mp h4).1
  rw [steps_len] at hj
  rw [steps_get hj] at h4
  cases h4
  omega
theorem steps_snoc {n : Nat} : stepsL (n + 1) = stepsL n ++ [max 0 ((n : Int) - 1)] := by simp [stepsL, List.range_succ]
/-- the bools of a comparison of two lists, item by item -/
theorem int_at {ns : List Int} {i : Nat} {x : V} (h : (ns.map V.int)[i]? = some x) : ∃ u, x = .int u ∧ at0 ns (i : Int) = u := by
  obtain ⟨u, hu, rfl⟩ := int_of_get h
  have := at0_n (ns := ns) (n := i) (i := (i : Int)) rfl (List.getElem?_eq_some_iff.mp hu).1
  rw [hu] at this
  exact ⟨u, rfl, (Option.some.inj this).symm⟩
end VB

namespace VB
open PySem PySem.Spec PyProof.Rows L2
/-! ### depths: the shortest ways from the newest entry down -/
inductive Pa (ns : List Int) : Int → Nat → Prop
  | new : Pa ns ((ns.length : Int) - 1) 0
  | step {x : Int} {d : Nat} (h : Pa ns x d) (h1 : 1 ≤ x) : Pa ns (x - 1) (d + 1)
  | link {x : Int} {d : Nat} (h : Pa ns x d) (h1 : 1 ≤ x) : Pa ns (at0 ns x) (d + 1)
def Dst (ns : List Int) (x : Int) (d : Nat) : Prop := Pa ns x d ∧ ∀ d', Pa ns x d' → d ≤ d'
theorem Pa.bnd {ns : List Int} {x : Int} {d : Nat} (hF : Form ns) (h : Pa ns x d) : 0 ≤ x ∧ x + d ≤ (ns.length : Int) - 1 := by
  have := hF.1
  induction h with
  | new => omega
  | step h h1 ih => omega
  | @link x d h h1 ih =>
    have := at0_lt hF (i := x) h1 (by omega)
    omega
theorem Pa.all {ns : List Int} : ∀ (d : Nat), (d : Int) ≤ (ns.length : Int) - 1 → Pa ns ((ns.length : Int) - 1 - d) d
  | 0, _ => by simpa using Pa.new (ns := ns)
  | d + 1, h => by
    have := Pa.step (Pa.all (ns := ns) d (by omega)) (by omega)
    rw [show (ns.length : Int) - 1 - ((d + 1 : Nat) : Int) = (ns.length : Int) - 1 - d - 1 by omega]
    exact this
theorem Dst.uniq {ns : List Int} {x : Int} {d d' : Nat} (h : Dst ns x d) (h' : Dst ns x d') : d = d' := Nat.le_antisymm (h.2 _ h'.1) (h'.2 _ h.1)
theorem Dst.of {ns : List Int} {x : Int} : ∀ (d : Nat), Pa ns x d → ∃ d', d' ≤ d ∧ Dst ns x d' := by
  intro d
  induction d using Nat.strongRecOn with
  | _ d ih =>
    intro h
    by_cases q : ∃ d', d' < d ∧ Pa ns x d'
    · obtain ⟨d', h1, h2⟩ := q
      obtain ⟨e, h3, h4⟩ := ih d' h1 h2
      exact ⟨e, by omega, h4⟩
    · refine ⟨d, Nat.le_refl _, h, fun d' h' => ?_⟩
      apply Classical.byContradiction
      intro z
      exact q ⟨d', by omega, h'⟩
theorem Dst.ex {ns : List Int} {x : Int} (h0 : 0 ≤ x) (h1 : x < ns.length) : ∃ d, Dst ns x d := by
  have := Pa.all (ns := ns) ((ns.length : Int) - 1 - x).toNat (by omega)
  rw [show (ns.length : Int) - 1 - (((ns.length : Int) - 1 - x).toNat : Int) = x by omega] at this
  obtain ⟨d, _, h⟩ := Dst.of _ this
  exact ⟨d, h⟩
theorem Dst.bnd {ns : List Int} {x : Int} {d : Nat} (hF : Form ns) (h : Dst ns x d) : 0 ≤ x ∧ x + d ≤ (ns.length : Int) - 1 := h.1.bnd hF
theorem Dst.zero {ns : List Int} : Dst ns ((ns.length : Int) - 1) 0 := ⟨.new, fun _ _ => Nat.zero_le _⟩
theorem Dst.zero_iff {ns : List Int} {x : Int} : Dst ns x 0 ↔ x = (ns.length : Int) - 1 := by
  constructor
  · rintro ⟨h, _⟩
    cases h
    rfl
  · rintro rfl
    exact Dst.zero
theorem Dst.pred {ns : List Int} {x : Int} {d : Nat} (h : Dst ns x (d + 1)) : ∃ y, 1 ≤ y ∧ Dst ns y d ∧ (x = y - 1 ∨ x = at0 ns y) := by
  obtain ⟨h1, h2⟩ := h
  cases h1 with
  | @step y _ h h1 =>
    refine ⟨y, h1, ⟨h, fun d' h' => ?_⟩, .inl rfl⟩
    have := h2 _ (h'.step h1)
    omega
  | @link y _ h h1 =>
    refine ⟨y, h1, ⟨h, fun d' h' => ?_⟩, .inr rfl⟩
    have := h2 _ (h'.link h1)
    omega
theorem Dst.level {ns : List Int} : ∀ {d t : Nat} {x : Int}, Dst ns x d → t ≤ d → ∃ y, Dst ns y t
  | 0, t, x, h, ht => ⟨x, by rw [show t = 0 by omega]; exact h⟩
  | d + 1, t, x, h, ht => by
    by_cases q : t = d + 1
    · exact ⟨x, q ▸ h⟩
    · obtain ⟨y, _, hy, _⟩ := h.pred
      exact Dst.level hy (by omega)
/-- what the two programs tell -/
def Deps (ns ds : List Int) : Prop := ds.length = ns.length ∧ ∀ x : Int, 0 ≤ x → x < ns.length → ∃ d : Nat, Dst ns x d ∧ at0 ds x = d
theorem ints_ext {as bs : List Int} (hl : as.length = bs.length) (h : ∀ i : Nat, i < as.length → at0 as (i : Int) = at0 bs (i : Int)) : as = bs := by
  apply List.ext_getElem hl
  intro i h1 h2
  have := h i h1
  rwa [at0_get h1, at0_get h2] at this
theorem Deps.uniq {ns ds es : List Int} (h : Deps ns ds) (h' : Deps ns es) : ds = es := by
  refine ints_ext (by rw [h.1, h'.1]) fun i hi => ?_
  rw [h.1] at hi
  obtain ⟨d, h1, h2⟩ := h.2 (i : Int) (by omega) (by omega)
  obtain ⟨d', h1', h2'⟩ := h'.2 (i : Int) (by omega) (by omega)
  rw [h2, h2', h1.uniq h1']
theorem Deps.bnd {ns ds : List Int} (hF : Form ns) (h : Deps ns ds) : ∀ d ∈ ds, 0 ≤ d ∧ d < ns.length := by
  intro d hd
  obtain ⟨i, hi, e⟩ := List.mem_iff_getElem.mp hd
  rw [h.1] at hi
  obtain ⟨d', h1, h2⟩ := h.2 (i : Int) (by omega) (by omega)
  rw [at0_get (by rw [h.1]; exact hi), e] at h2
  have := h1.bnd hF
  omega
/-! ### the depths lowered entry by entry -/
structure DP (ns ds : List Int) (Dn : Int → Int → Prop) : Prop where
  len : ds.length = ns.length
  real : ∀ x : Int, 0 ≤ x → x < ns.length → at0 ds x = ns.length ∨ ∃ d : Nat, at0 ds x = d ∧ Pa ns x d
  le : ∀ (x y : Int) (d : Nat), Dn x y → Pa ns y d → 1 ≤ y → (x = y - 1 ∨ x = at0 ns y) → at0 ds x ≤ d + 1
  new : at0 ds ((ns.length : Int) - 1) = 0
theorem at0_set {ns : List Int} {i j v : Int} (h0 : 0 ≤ i) (h1 : i < ns.length) (hj : 0 ≤ j) : at0 (ns.set i.toNat v) j = if j = i then v else at0 ns j := by
  unfold at0
  simp only [List.getD_eq_getElem?_getD, List.getElem?_set]
  by_cases q : j = i
  · subst q
    rw [if_pos rfl, if_pos rfl, if_pos (by omega)]
    rfl
  · rw [if_neg (by omega), if_neg q]
theorem DP.start {ns : List Int} (hF : Form ns) : DP ns ((List.replicate ns.length (ns.length : Int)).set (ns.length - 1) 0) fun _ y => (ns.length : Int) - 1 < y := by
  have h1 := hF.1
  have e : ∀ x : Int, 0 ≤ x → x < ns.length → at0 ((List.replicate ns.length (ns.length : Int)).set (ns.length - 1) 0) x = if x = (ns.length : Int) - 1 then 0 else (ns.length : Int) := by
    intro x h2 h3
    have := at0_set (ns := List.replicate ns.length (ns.length : Int)) (i := (ns.length : Int) - 1) (j := x) (v := 0) (by omega) (by simp; omega) h2
    rw [show ((ns.length : Int) - 1).toNat = ns.length - 1 by omega] at this
    rw [this]
    split
    · rfl
    · unfold at0
      rw [List.getD_eq_getElem?_getD, List.getElem?_replicate, if_pos (by omega)]
      rfl
  refine ⟨by simp, fun x h2 h3 => ?_, fun x y d h2 h3 => ?_, ?_⟩
  · rw [e x h2 h3]
    split
    · rename_i k
      exact .inr ⟨0, rfl, k ▸ .new⟩
    · exact .inl rfl
  · have := h3.bnd hF
    omega
  · rw [e _ (by omega) (by omega), if_pos rfl]
theorem DP.at {ns ds : List Int} {Dn : Int → Int → Prop} (hF : Form ns) (h : DP ns ds Dn) {x : Int} (h0 : 0 ≤ x) (h1 : x < ns.length) (hd : ∀ y, x < y → y < ns.length → Dn x y) : ∃ d, Dst ns x d ∧ at0 ds x = d := by
  obtain ⟨d, hD⟩ := Dst.ex h0 h1
  refine ⟨d, hD, ?_⟩
  have hb := hD.bnd hF
  have up : at0 ds x ≤ d := by
    obtain ⟨hp, _⟩ := hD
    cases hp with
    | new => rw [h.new]; omega
    | @step y d hp h2 =>
      have := hp.bnd hF
      have := h.le (y - 1) y d (hd y (by omega) (by omega)) hp h2 (.inl rfl)
      omega
    | @link y d hp h2 =>
      have h3 := hp.bnd hF
      have := at0_lt hF (i := y) h2 (by omega)
      have := h.le (at0 ns y) y d (hd y (by omega) (by omega)) hp h2 (.inr rfl)
      omega
  rcases h.real x h0 h1 with q | ⟨d', q, hp⟩
  · omega
  · have := hD.2 _ hp
    omega
theorem DP.relax {ns ds : List Int} {Dn : Int → Int → Prop} (hF : Form ns) (h : DP ns ds Dn) {e : Int} {d : Nat} (hD : Dst ns e d) (h1 : 1 ≤ e) {x0 : Int} (hx : x0 = e - 1 ∨ x0 = at0 ns e) :
    ((d : Int) + 1 < at0 ds x0 → DP ns (ds.set x0.toNat (d + 1)) fun x y => Dn x y ∨ (y = e ∧ x = x0)) ∧ (¬ (d : Int) + 1 < at0 ds x0 → DP ns ds fun x y => Dn x y ∨ (y = e ∧ x = x0)) := by
  have hb := hD.bnd hF
  have hp : Pa ns x0 (d + 1) := by
    rcases hx with rfl | rfl
    · exact hD.1.step h1
    · exact hD.1.link h1
  have hb0 := hp.bnd hF
  have hl := h.len
  constructor
  · intro hc
    have e1 : ∀ x : Int, 0 ≤ x → at0 (ds.set x0.toNat (d + 1)) x = if x = x0 then (d : Int) + 1 else at0 ds x := fun x h2 => at0_set hb0.1 (by omega) h2
    refine ⟨by simp [hl], fun x h2 h3 => ?_, fun x y d' hdn hy h2 hxy => ?_, ?_⟩
    · rw [e1 x h2]
      split
      · rename_i k
        exact .inr ⟨d + 1, by omega, k ▸ hp⟩
      · exact h.real x h2 h3
    · have hy2 := hy.bnd hF
      have hx0 : 0 ≤ x := by
        rcases hxy with rfl | rfl
        · omega
        · exact ((hy.link h2).bnd hF).1
      rw [e1 x hx0]
      rcases hdn with hdn | ⟨rfl, rfl⟩
      · have := h.le x y d' hdn hy h2 hxy
        split
        · rename_i k
          subst k
          omega
        · exact this
      · rw [if_pos rfl]
        have := hD.2 _ hy
        omega
    · rw [e1 _ (by omega), if_neg (by omega)]
      exact h.new
  · intro hc
    refine ⟨hl, h.real, fun x y d' hdn hy h2 hxy => ?_, h.new⟩
    rcases hdn with hdn | ⟨rfl, rfl⟩
    · exact h.le x y d' hdn hy h2 hxy
    · have := hD.2 _ hy
      omega
/-! ### the depths layer by layer -/
theorem nodup_len : ∀ {n : Nat} {ks : List Int}, ks.Nodup → (∀ x ∈ ks, 0 ≤ x ∧ x < n) → ks.length ≤ n
  | 0, [], _, _ => Nat.le_refl _
  | 0, k :: ks, _, hb => by
    have := hb k (List.mem_cons_self ..)
    omega
  | n + 1, ks, h, hb => by
    have h1 := nodup_len (n := n) (h.erase (n : Int)) fun x hx => by
      rw [h.mem_erase_iff] at hx
      have := hb x hx.2
      omega
    rw [List.length_erase] at h1
    split at h1 <;> omega
structure BF (ns ks : List Int) (t : Nat) (f : Int → Option Int) : Prop where
  nd : ks.Nodup
  keys : ∀ x, (f x).isSome = true ↔ x ∈ ks
  dst : ∀ x v, f x = some v → ∃ d : Nat, v = d ∧ Dst ns x d ∧ d ≤ t
  full : ∀ x d, Dst ns x d → d < t → (f x).isSome = true
theorem BF.len {ns ks : List Int} {t : Nat} {f : Int → Option Int} (hF : Form ns) (h : BF ns ks t f) : ks.length ≤ ns.length := nodup_len h.nd fun x hx => by
  have := (h.keys x).mpr hx
  obtain ⟨v, hv⟩ := Option.isSome_iff_exists.mp this
  obtain ⟨d, _, hd, _⟩ := h.dst x v hv
  have := hd.bnd hF
  omega
theorem BF.start {ns : List Int} : BF ns [(ns.length : Int) - 1] 0 (fput (fun _ => none) ((ns.length : Int) - 1) 0) := by
  refine ⟨by simp, fun x => ?_, fun x v h => ?_, fun x d _ h => absurd h (Nat.not_lt_zero _)⟩
  · unfold fput
    split <;> simp_all
  · unfold fput at h
    split at h
    · rename_i k
      cases h
      exact ⟨0, rfl, k ▸ Dst.zero, Nat.le_refl _⟩
    · cases h
/-- within a layer: its first j entries are done -/
structure BJ (ns ks layer later : List Int) (t j : Nat) (f : Int → Option Int) : Prop where
  b : BF ns ks (t + 1) f
  sub : later.Sublist ks
  late : ∀ x, x ∈ later ↔ Dst ns x (t + 1) ∧ (f x).isSome = true
  lay : ∀ x, x ∈ layer ↔ Dst ns x t
  done : ∀ i y, i < j → layer[i]? = some y → 1 ≤ y → (f (y - 1)).isSome = true ∧ (f (at0 ns y)).isSome = true
theorem BJ.start {ns ks layer : List Int} {t : Nat} {f : Int → Option Int} (h : BF ns ks t f) (hfull : ∀ x, Dst ns x t → (f x).isSome = true) (hl : ∀ x, x ∈ layer ↔ Dst ns x t) : BJ ns ks layer [] t 0 f := by
  refine ⟨⟨h.nd, h.keys, fun x v e => ?_, fun x d hd hlt => ?_⟩, List.nil_sublist _, fun x => ?_, hl, fun i y hi => absurd hi (Nat.not_lt_zero _)⟩
  · obtain ⟨d, h1, h2, h3⟩ := h.dst x v e
    exact ⟨d, h1, h2, by omega⟩
  · by_cases q : d = t
    · exact hfull x (q ▸ hd)
    · exact h.full x d hd (by omega)
  · constructor
    · intro h; cases h
    · rintro ⟨h1, h2⟩
      obtain ⟨v, hv⟩ := Option.isSome_iff_exists.mp h2
      obtain ⟨d, _, h3, h4⟩ := h.dst x v hv
      have := h1.uniq h3
      omega
/-- an entry below is put in -/
theorem BJ.put {ns ks layer later : List Int} {t j : Nat} {f : Int → Option Int} (hF : Form ns) (h : BJ ns ks layer later t j f) {y low : Int} (hy : Dst ns y t) (hlow : low = at0 ns y ∨ low = max 0 (y - 1)) (hn : (f low).isSome = false) :
    f y = some (t : Int) ∧ BJ ns (ks ++ [low]) layer (later ++ [low]) t j (fput f low (t + 1)) := by
  have hfy : f y = some (t : Int) := by
    obtain ⟨v, hv⟩ := Option.isSome_iff_exists.mp (h.b.full y t hy (by omega))
    obtain ⟨d, h1, h2, _⟩ := h.b.dst y v hv
    rw [hv, h1, h2.uniq hy]
  refine ⟨hfy, ?_⟩
  have hyb := hy.bnd hF
  have hy1 : 1 ≤ y := by
    apply Classical.byContradiction
    intro z
    have : y = 0 := by omega
    subst this
    have hl0 : low = 0 := by
      rcases hlow with rfl | rfl
      · have := (hF.nat (i := 0) (by have := hF.1; omega))
        have e := at0_get (ns := ns) (i := 0) (by have := hF.1; omega)
        simp only [Int.natCast_zero] at e
        omega
      · rfl
    rw [hl0, hfy] at hn
    cases hn
  have hp : Pa ns low (t + 1) := by
    rcases hlow with rfl | rfl
    · exact hy.1.link hy1
    · rw [show max 0 (y - 1) = y - 1 by omega]
      exact hy.1.step hy1
  have hD : Dst ns low (t + 1) := by
    refine ⟨hp, fun d' h' => ?_⟩
    apply Classical.byContradiction
    intro z
    obtain ⟨d2, h2, h3⟩ := Dst.of _ h'
    have := h.b.full low d2 h3 (by omega)
    rw [hn] at this
    cases this
  have hnk : low ∉ ks := fun z => by
    have := (h.b.keys low).mpr z
    rw [hn] at this
    cases this
  have hmono : ∀ x, (f x).isSome = true → (fput f low (t + 1) x).isSome = true := by
    intro x hx
    unfold fput
    split
    · rfl
    · exact hx
  refine ⟨⟨?_, fun x => ?_, fun x v e => ?_, fun x d hd hlt => hmono x (h.b.full x d hd hlt)⟩, h.sub.append (List.Sublist.refl _), fun x => ?_, h.lay, fun i z hi hz hz1 => ?_⟩
  · rw [List.nodup_append]
    refine ⟨h.b.nd, by simp, fun a ha b hb => ?_⟩
    rw [List.mem_singleton] at hb
    rintro rfl
    exact hnk (hb ▸ ha)
  · rw [List.mem_append, List.mem_singleton, ← h.b.keys]
    unfold fput
    split
    · rename_i k; simp [k]
    · rename_i k; simp [k]
  · unfold fput at e
    split at e
    · rename_i k
      cases e
      exact ⟨t + 1, by omega, k ▸ hD, Nat.le_refl _⟩
    · exact h.b.dst x v e
  · rw [List.mem_append, List.mem_singleton, h.late]
    constructor
    · rintro (⟨h1, h2⟩ | rfl)
      · exact ⟨h1, hmono x h2⟩
      · exact ⟨hD, by rw [fput_eq]; rfl⟩
    · rintro ⟨h1, h2⟩
      by_cases k : x = low
      · exact .inr k
      · rw [fput_ne k] at h2
        exact .inl ⟨h1, h2⟩
  · obtain ⟨h1, h2⟩ := h.done i z hi hz hz1
    exact ⟨hmono _ h1, hmono _ h2⟩
theorem BJ.next {ns ks layer later : List Int} {t j : Nat} {f : Int → Option Int} {y : Int} (h : BJ ns ks layer later t j f) (hy : layer[j]? = some y) (h1 : (f (at0 ns y)).isSome = true) (h2 : (f (max 0 (y - 1))).isSome = true) : BJ ns ks layer later t (j + 1) f := by
  refine ⟨h.b, h.sub, h.late, h.lay, fun i z hi hz hz1 => ?_⟩
  by_cases k : i = j
  · subst k
    rw [hy] at hz
    cases hz
    rw [show max 0 (y - 1) = y - 1 by omega] at h2
    exact ⟨h2, h1⟩
  · exact h.done i z (by omega) hz hz1
theorem BJ.fin {ns ks layer later : List Int} {t : Nat} {f : Int → Option Int} (h : BJ ns ks layer later t layer.length f) : BF ns ks (t + 1) f ∧ (∀ x, Dst ns x (t + 1) → (f x).isSome = true) ∧ ∀ x, x ∈ later ↔ Dst ns x (t + 1) := by
  have key : ∀ x, Dst ns x (t + 1) → (f x).isSome = true := by
    intro x hx
    obtain ⟨y, hy1, hy, hxy⟩ := hx.pred
    obtain ⟨i, hi, e⟩ := List.mem_iff_getElem.mp ((h.lay y).mpr hy)
    obtain ⟨h1, h2⟩ := h.done i y hi (by rw [List.getElem?_eq_getElem hi, e]) hy1
    rcases hxy with rfl | rfl
    · exact h1
    · exact h2
  exact ⟨h.b, key, fun x => by rw [h.late]; exact ⟨fun z => z.1, fun z => ⟨z, key x z⟩⟩⟩
theorem BF.ends {ns ks : List Int} {t : Nat} {f : Int → Option Int} (h : BF ns ks t f) (hl : ∀ x, ¬ Dst ns x t) : ∀ x : Int, 0 ≤ x → x < ns.length → ∃ d : Nat, Dst ns x d ∧ f x = some (d : Int) := by
  intro x h0 h1
  obtain ⟨d, hd⟩ := Dst.ex h0 h1
  have hlt : d < t := by
    apply Classical.byContradiction
    intro z
    obtain ⟨y, hy⟩ := hd.level (t := t) (by omega)
    exact hl y hy
  obtain ⟨v, hv⟩ := Option.isSome_iff_exists.mp (h.full x d hd hlt)
  obtain ⟨d', h2, h3, _⟩ := h.dst x v hv
  exact ⟨d, hd, by rw [hv, h2, h3.uniq hd]⟩
theorem DP.mono {ns ds : List Int} {Dn Dn' : Int → Int → Prop} (h : DP ns ds Dn) (k : ∀ x y, Dn' x y → (x = y - 1 ∨ x = at0 ns y) → Dn x y) : DP ns ds Dn' := ⟨h.len, h.real, fun x y d h1 h2 h3 h4 => h.le x y d (k x y h1 h4) h2 h3 h4, h.new⟩
theorem w_itup {K : PySem.W.Frag} {tl : TE} {σ : L2.St} {H : Hp} {R : It → Hp → Prop} (q : tl σ H fun x H1 => ∃ a, x = .ref a ∧ (∃ xs, SqT K H1 a xs) ∧ R (Itt K a) H1) : iTup K tl σ H R := q
/-- depths that are written, looked at -/
def depB (ns ds : List Int) : Bool :=
  decide (ds.length = ns.length) && decide (at0 ds ((ns.length : Int) - 1) = 0) &&
  ((List.range ns.length).all fun x => decide (0 ≤ at0 ds (x : Int)) && (decide (x + 1 = ns.length) || (List.range ns.length).any fun y => decide (1 ≤ y) && decide (x < y) && (decide (x + 1 = y) || decide ((x : Int) = at0 ns (y : Int))) && decide (at0 ds (x : Int) = at0 ds (y : Int) + 1))) &&
  ((List.range ns.length).all fun y => decide (y = 0) || (decide (at0 ds ((y : Int) - 1) ≤ at0 ds (y : Int) + 1) && decide (at0 ds (at0 ns (y : Int)) ≤ at0 ds (y : Int) + 1)))
theorem deps_known {ns ds : List Int} (hF : Form ns) (h : depB ns ds = true) : Deps ns ds := by
  unfold depB at h
  simp only [Bool.and_eq_true, Bool.or_eq_true, decide_eq_true_eq, List.all_eq_true, List.any_eq_true, List.mem_range] at h
  obtain ⟨⟨⟨h1, h2⟩, h3⟩, h4⟩ := h
  have low : ∀ x d, Pa ns x d → at0 ds x ≤ d := by
    intro x d hp
    induction hp with
    | new => omega
    | @step x d hp h5 ih =>
      have hb := hp.bnd hF
      have := h4 x.toNat (by omega)
      rw [show ((x.toNat : Nat) : Int) = x by omega] at this
      rcases this with k | ⟨k, _⟩ <;> omega
    | @link x d hp h5 ih =>
      have hb := hp.bnd hF
      have := h4 x.toNat (by omega)
      rw [show ((x.toNat : Nat) : Int) = x by omega] at this
      rcases this with k | ⟨_, k⟩ <;> omega
  have real : ∀ (m x : Nat), x + m + 1 = ns.length → Pa ns (x : Int) (at0 ds (x : Int)).toNat := by
    intro m
    induction m using Nat.strongRecOn with
    | _ m ih =>
      intro x hx
      obtain ⟨h5, h6⟩ := h3 x (by omega)
      rcases h6 with h6 | ⟨y, hy, ⟨⟨h7, h8⟩, h9⟩, h10⟩
      · have e : (x : Int) = (ns.length : Int) - 1 := by omega
        rw [e, h2]
        exact .new
      · have hp := ih (ns.length - 1 - y) (by omega) y (by omega)
        have h11 := (h3 y hy).1
        rw [h10, show (at0 ds (y : Int) + 1).toNat = (at0 ds (y : Int)).toNat + 1 by omega]
        rcases h9 with h9 | h9
        · rw [show (x : Int) = (y : Int) - 1 by omega]
          exact hp.step (by omega)
        · rw [h9]
          exact hp.link (by omega)
  refine ⟨h1, fun x h0 hx => ?_⟩
  have hp := real (ns.length - 1 - x.toNat) x.toNat (by omega)
  have h5 := (h3 x.toNat (by omega)).1
  rw [show ((x.toNat : Nat) : Int) = x by omega] at hp h5
  refine ⟨_, ⟨hp, fun d' h' => ?_⟩, by omega⟩
  have := low x d' h'
  omega
/-- an allowed link keeps a log a log -/
theorem Log.snoc {ns : List Int} {t : Int} (h : Log ns) (ha : Allow ns t) (hz : ns.length < 150) : Log (ns ++ [t]) := ⟨form_snoc h.form ha.1 ha.2.1 hz, noCross_snoc h.nc ha⟩
end VB

namespace VB
open PySem PySem.Spec PyProof.Rows L2
/-! ### xs[::k], k being 1 or -1 -/
def tStepL (K : PySem.W.Frag) (te : TE) (tk : TO) : TE := fun σ H Q => te σ H fun x H1 => tk σ H1 fun o H2 => ∃ (a : Addr) (xs : List V) (k : Int), x = .ref a ∧ o = some k ∧ SqL K H2 a xs ∧ (k = 1 ∨ k = -1) ∧
  ∀ p, H2 p = none → Q (.ref p) (upd H2 p (.lst (if k = 1 then xs else xs.reverse)))
theorem pick_one (items : Array Value) : slicePick items none none (some 1) = items.toList.toArray := by
  unfold slicePick
  have e1 : sliceBounds none none (some 1) items.size = (0, (items.size : Int), 1) := by
    first
    | rfl
    | simp [sliceBounds]
  rw [e1]
  show ((sliceRange 0 (items.size : Int) 1).filterMap (items[·]?)).toArray = _
  have e2 : sliceRange 0 (items.size : Int) 1 = List.range items.size := by
    unfold sliceRange
    rw [if_pos (by decide)]
    by_cases h : (0 : Int) < items.size
    · rw [if_pos h]
      show (List.range (((items.size : Int) - 0 + 1 - 1) / 1).toNat).map (fun k : Nat => ((0 : Int) + 1 * (k : Int)).toNat) = _
      rw [show (((items.size : Int) - 0 + 1 - 1) / 1).toNat = items.size by rw [Int.ediv_one]; omega]
      apply List.ext_getElem
      · simp
      · intro i h1 h2
        simp
    · have e : items.size = 0 := by omega
      rw [if_neg h, e]
      rfl
  rw [e2, PySem.W.krv_all]
theorem pe_stepL {X : Cx} {K : PySem.W.Frag} (hK : X.K = K) {e ek : Expr} {te tk : TE} {p3 pos : Pos} (he : PE X e te) (hk : PE X ek tk) : PE X (.Subscript e (.Slice none none (some ek) p3) pos) (tStepL K te (tPart tk)) := by
  subst hK
  refine ⟨fun pins s σ H Q I h => ?_⟩
  refine Subscript_ (thn (he.run pins s σ H _ I h) fun v s1 ⟨x, H1, I1, r1, q1⟩ => ?_)
  refine wpAny_Slice (thn (po_none.run pins s1 σ H1 (fun o H2 => o = none ∧ H2 = H1) I1 ⟨rfl, rfl⟩) fun vl s2 ⟨l, H2, I2, pl, el, e2⟩ => ?_)
  subst el e2
  refine thn (po_none.run pins s2 σ H2 (fun o H3 => o = none ∧ H3 = H2) I2 ⟨rfl, rfl⟩) fun vu s3 ⟨u, H3, I3, pu, eu, e3⟩ => ?_
  subst eu e3
  refine thn ((po_some hk).run pins s3 σ H3 _ I3 q1) fun vs s4 ⟨o, H4, I4, ps, a, xs, k, ex, eo, hx, hk1, q⟩ => ?_
  subst ex eo
  cases r1
  have I5 : Inv X pins σ H4 { s4 with heap := s4.heap.push { cls := .type "slice", data := .fields #[vl, vu, vs] } } := I4.kept (t' := s4.toks) fun b ob q => Heap.get?_push_of_some _ q
  obtain ⟨its, r, ht, hz⟩ := I5.list hx
  have hlen := r.length
  show wpAny (model X.prog X.w) X.A (subscriptTail e (.Slice none none (some ek) p3) (.ref a) (.ref s4.heap.objs.size)) (EP X pins σ Q) X.xe { s4 with heap := s4.heap.push { cls := .type "slice", data := .fields #[vl, vu, vs] } }
  refine tail_any (ops := [.ref a, .ref s4.heap.objs.size]) ht.isList.typeIs (PySem.slot_list_getitem.lookup) ?_ (by with_unfolding_all rfl)
  refine wpAny_getItem_list_slice ht.isList (Heap.IsSliceOf.new _ vl vu vs) pl pu ps (by rcases hk1 with rfl | rfl <;> decide) ?_ (by rw [List.size_toArray]; omega)
  rcases hk1 with rfl | rfl
  · rw [pick_one]
    rw [if_pos rfl] at q
    refine ⟨.ref _, _, I5.laid (t' := s4.toks) (o := .lst xs) (fun b ob q => Heap.get?_push_of_some _ q) (Nat.le_refl _) ?_, rfl, q _ (I5.hok.fresh (Nat.le_refl _))⟩
    exact ⟨hz, _, 0, r, Heap.get?_push_size _ rfl⟩
  · rw [PySem.W.krv_pick]
    rw [if_neg (by decide)] at q
    refine ⟨.ref _, _, I5.laid (t' := s4.toks) (o := .lst xs.reverse) (fun b ob q => Heap.get?_push_of_some _ q) (Nat.le_refl _) ?_, rfl, q _ (I5.hok.fresh (Nat.le_refl _))⟩
    exact ⟨by rw [List.length_reverse]; exact hz, _, 0, r.reverse, Heap.get?_push_size _ rfl⟩
theorem w_stepL {K : PySem.W.Frag} {te : TE} {tk : TO} {σ : L2.St} {H : Hp} {Q : VK} (q : te σ H fun x H1 => tk σ H1 fun o H2 => ∃ (a : Addr) (xs : List V) (k : Int), x = .ref a ∧ o = some k ∧ SqL K H2 a xs ∧ (k = 1 ∨ k = -1) ∧
  ∀ p, H2 p = none → Q (.ref p) (upd H2 p (.lst (if k = 1 then xs else xs.reverse)))) : tStepL K te tk σ H Q := q
/-! ### lists of great ints, shown -/
theorem showable_gr : ∀ ns : List Int, (∀ n ∈ ns, n.natAbs < 10 ^ 100) → PyData.showableAll (ns.map PyData.int) = true
  | [], _ => rfl
  | n :: ns, h => by
    rw [List.map_cons, PyData.showableAll, showable_gr ns fun m hm => h m (List.mem_cons_of_mem _ hm), Bool.and_true]
    obtain ⟨_, _, h3, _⟩ := shown_gr (h n (List.mem_cons_self ..))
    exact h3
theorem short_gr : ∀ ns : List Int, (∀ n ∈ ns, n.natAbs < 10 ^ 100) → PyData.leavesShortAll 101 (ns.map PyData.int) = true
  | [], _ => rfl
  | n :: ns, h => by
    rw [List.map_cons, PyData.leavesShortAll, short_gr ns fun m hm => h m (List.mem_cons_of_mem _ hm), Bool.and_true, PyData.leavesShort]
    have e := PySem.int_text_length_le10 (k := 100) (by decide) (h n (List.mem_cons_self ..))
    refine decide_eq_true ?_
    show (Str.ofString (toString n)).length ≤ 101
    rw [PySem.ofString_length]
    omega
theorem bulk_ints : ∀ ns : List Int, PyData.bulkAll (ns.map PyData.int) = ns.length
  | [] => rfl
  | n :: ns => by rw [List.map_cons, PyData.bulkAll, bulk_ints ns, PyData.bulk, List.length_cons]; omega
theorem shown_2G {ns ms : List Int} (h1 : ∀ n ∈ ns, n.natAbs < 10 ^ 100) (h2 : ∀ n ∈ ms, n.natAbs < 10 ^ 100) (l1 : ns.length ≤ 1000) (l2 : ms.length ≤ 1000) : Shown (.list [.list (ns.map PyData.int), .list (ms.map PyData.int)]) := by
  refine ⟨?_, ?_, ?_, ?_⟩
  · simp only [PyData.canLay0, PyData.canLayAll0, canLay_ints, Bool.and_self]
  · simp only [PyData.depth, PyData.depthAll, depth_ints]; decide
  · simp only [PyData.showable, PyData.showableAll, showable_gr ns h1, showable_gr ms h2, Bool.and_self]
  · have := PyData.shown_le_bulk 101 (by decide) (.list [.list (ns.map PyData.int), .list (ms.map PyData.int)]) (by
      simp only [PyData.leavesShort, PyData.leavesShortAll, short_gr ns h1, short_gr ms h2, Bool.and_self])
    simp only [PyData.bulk, PyData.bulkAll, bulk_ints] at this
    have : sizeLine = 16777216 := rfl
    omega
theorem w_repr2G {K : PySem.W.Frag} {H : Hp} {Q : VK} {p a b : Addr} {ns ms : List Int} (h : SqL K H p [.ref a, .ref b]) (ha : SqL K H a (ns.map V.int)) (hb : SqL K H b (ms.map V.int)) (h1 : ∀ n ∈ ns, n.natAbs < 10 ^ 100) (h2 : ∀ n ∈ ms, n.natAbs < 10 ^ 100) (l1 : ns.length ≤ 1000) (l2 : ms.length ≤ 1000)
    (q : Q (.str (PyData.shown (.list [.list (ns.map PyData.int), .list (ms.map PyData.int)]))) H) : rRepr K [.ref p] H Q :=
  ⟨_, _, rfl, .lst h (.cons (dp_ints ha) (.cons (dp_ints hb) .nil)), shown_2G h1 h2 l1 l2, q⟩
/-! ### the greedy way down is a shortest one -/
inductive GD (ns : List Int) (e : Int) : Int → Nat → Prop
  | zero : GD ns e e 0
  | link {s : Int} {d : Nat} (h : e < s) (l : e ≤ at0 ns s) (t : GD ns e (at0 ns s) d) : GD ns e s (d + 1)
  | step {s : Int} {d : Nat} (h : e < s) (l : at0 ns s < e) (t : GD ns e (s - 1) d) : GD ns e s (d + 1)
theorem GD.ex {ns : List Int} {e : Int} (hF : Form ns) (he : 0 ≤ e) : ∀ (n : Nat) (s : Int), s = e + n → s < ns.length → ∃ d, d ≤ n ∧ GD ns e s d := by
  intro n
  induction n using Nat.strongRecOn with
  | _ n ih =>
    intro s hs hl
    by_cases h0 : n = 0
    · subst h0
      refine ⟨0, Nat.le_refl _, ?_⟩
      rw [show s = e by omega]
      exact .zero
    · have hlt := at0_lt hF (i := s) (by omega) hl
      by_cases h1 : e ≤ at0 ns s
      · obtain ⟨d, h2, h3⟩ := ih (at0 ns s - e).toNat (by omega) (at0 ns s) (by omega) (by omega)
        exact ⟨d + 1, by omega, .link (by omega) h1 h3⟩
      · obtain ⟨d, h2, h3⟩ := ih (n - 1) (by omega) (s - 1) (by omega) (by omega)
        exact ⟨d + 1, by omega, .step (by omega) (by omega) h3⟩
theorem GD.uniq {ns : List Int} {e s : Int} {d d' : Nat} (h : GD ns e s d) : GD ns e s d' → d = d' := by
  induction h generalizing d' with
  | zero => intro g; cases g <;> omega
  | link h l t ih =>
    intro g
    cases g with
    | zero => omega
    | link h' l' t' => rw [ih t']
    | step h' l' t' => omega
  | step h l t ih =>
    intro g
    cases g with
    | zero => omega
    | link h' l' t' => omega
    | step h' l' t' => rw [ih t']
theorem GD.ex' {ns : List Int} {e s : Int} (hF : Form ns) (he : 0 ≤ e) (hs : e ≤ s) (hl : s < ns.length) : ∃ d, GD ns e s d := by
  obtain ⟨d, _, h⟩ := GD.ex hF he (s - e).toNat s (by omega) hl
  exact ⟨d, h⟩
/-- the greedy way from within goes through the entry below -/
theorem GD.thru {ns : List Int} {e l x : Int} (hL : Log ns) (he : 0 ≤ e) (hx : x < ns.length) (hl : l = at0 ns x) (hel : e ≤ l) {dl : Nat} (gl : GD ns e l dl) : ∀ (n : Nat) (z : Int) (d : Nat), z = l + n → z < x → GD ns e z d → dl ≤ d := by
  intro n
  induction n using Nat.strongRecOn with
  | _ n ih =>
    intro z d hz hzx g
    by_cases h0 : n = 0
    · have : z = l := by omega
      subst this
      rw [gl.uniq g]
      exact Nat.le_refl _
    · have hzl := at0_lt hL.form (i := z) (by omega) (by omega)
      have hge : l ≤ at0 ns z := by
        apply Classical.byContradiction
        intro q
        refine hL.nc z.toNat x.toNat ⟨by omega, by omega, at0 ns z, at0 ns x, at0_get? (by omega) (by omega), at0_get? (by omega) (by omega), by omega, by omega⟩
      cases g with
      | zero => omega
      | link h l' t =>
        have := ih (at0 ns z - l).toNat (by omega) _ _ (by omega) (by omega) t
        omega
      | step h l' t => omega
theorem GD.edge {ns : List Int} {e x y : Int} {d c : Nat} (hL : Log ns) (he : 0 ≤ e) (h1 : 1 ≤ x) (hx : x < ns.length) (hy : y = x - 1 ∨ y = at0 ns x) (hey : e ≤ y) (gx : GD ns e x d) (gy : GD ns e y c) : d ≤ c + 1 := by
  have hlt := at0_lt hL.form h1 hx
  cases gx with
  | zero => omega
  | link h l t =>
    rcases hy with rfl | rfl
    · have := GD.thru hL he hx rfl l t (x - 1 - at0 ns x).toNat (x - 1) c (by omega) (by omega) gy
      omega
    · rw [gy.uniq t]
      exact Nat.le_refl _
  | step h l t =>
    rcases hy with rfl | rfl
    · rw [gy.uniq t]
      exact Nat.le_refl _
    · omega
theorem GD.pa {ns : List Int} {e s : Int} {d : Nat} (he : 0 ≤ e) (g : GD ns e s d) : ∀ k, Pa ns s k → Pa ns e (k + d) := by
  induction g with
  | zero => intro k h; exact h
  | @link s d h l t ih =>
    intro k hp
    have := ih (k + 1) (hp.link (by omega))
    rwa [show k + 1 + d = k + (d + 1) by omega] at this
  | @step s d h l t ih =>
    intro k hp
    have := ih (k + 1) (hp.step (by omega))
    rwa [show k + 1 + d = k + (d + 1) by omega] at this
theorem GD.dst {ns : List Int} {e : Int} {d : Nat} (hL : Log ns) (he : 0 ≤ e) (hl : e < ns.length) (g : GD ns e ((ns.length : Int) - 1) d) : Dst ns e d := by
  refine ⟨by simpa using g.pa he 0 .new, fun d' hp => ?_⟩
  have key : ∀ x k, Pa ns x k → e ≤ x → ∀ c, GD ns e x c → d ≤ k + c := by
    intro x k hp
    induction hp with
    | new => intro _ c gc; rw [g.uniq gc]; omega
    | @step x k hp h1 ih =>
      intro hex c gc
      have hb := hp.bnd hL.form
      obtain ⟨c', gc'⟩ := GD.ex' hL.form he (s := x) (by omega) (by omega)
      have := ih (by omega) c' gc'
      have := GD.edge hL he h1 (by omega) (.inl rfl) hex gc' gc
      omega
    | @link x k hp h1 ih =>
      intro hex c gc
      have hb := hp.bnd hL.form
      have hlt := at0_lt hL.form h1 (by omega)
      obtain ⟨c', gc'⟩ := GD.ex' hL.form he (s := x) (by omega) (by omega)
      have := ih (by omega) c' gc'
      have := GD.edge hL he h1 (by omega) (.inr rfl) hex gc' gc
      omega
  have := key e d' hp (Int.le_refl _) 0 .zero
  omega
/-! ### sums of products -/
def dot (ps ds : List Int) (n : Nat) : Int := ((List.range n).map fun j : Nat => at0 ps (j : Int) * at0 ds (j : Int)).sum
theorem dot_succ (ps ds : List Int) (n : Nat) : dot ps ds (n + 1) = dot ps ds n + at0 ps (n : Int) * at0 ds (n : Int) := by
  unfold dot
  rw [List.range_succ, List.map_append, List.sum_append]
  simp
theorem dot_bnd {ps ds : List Int} {b : Int} (hp : ∀ p ∈ ps, 0 ≤ p ∧ p ≤ b) (hd : ∀ d ∈ ds, 0 ≤ d ∧ d < 200) (hl : ps.length = ds.length) : ∀ n : Nat, n ≤ ps.length → 0 ≤ dot ps ds n ∧ dot ps ds n ≤ n * (b * 200)
  | 0, _ => by simp [dot]
  | n + 1, h => by
    obtain ⟨i1, i2⟩ := dot_bnd hp hd hl n (by omega)
    have h1 := hp _ (at0_mem (ns := ps) (i := (n : Int)) (by omega) (by omega))
    have h2 := hd _ (at0_mem (ns := ds) (i := (n : Int)) (by omega) (by omega))
    rw [dot_succ]
    have h3 : 0 ≤ at0 ps (n : Int) * at0 ds (n : Int) := Int.mul_nonneg h1.1 h2.1
    have h4 : at0 ps (n : Int) * at0 ds (n : Int) ≤ b * 200 := Int.mul_le_mul h1.2 (by omega) h2.1 (by omega)
    rw [show ((n + 1 : Nat) : Int) * (b * 200) = n * (b * 200) + b * 200 by rw [Int.natCast_add, Int.add_mul]; omega]
    omega
/-! ### costs -/
structure PriceL (ps : List Int) : Prop where
  l1 : 1 ≤ ps.length
  l2 : ps.length ≤ 60
  b : ∀ x ∈ ps, 0 ≤ x ∧ x ≤ 10 ^ 30
theorem Deps.ex {ns : List Int} : ∃ ds, Deps ns ds := by
  have h : ∀ i : Nat, ∃ d : Nat, i < ns.length → Dst ns (i : Int) d := fun i => by
    by_cases q : i < ns.length
    · obtain ⟨d, hd⟩ := Dst.ex (ns := ns) (x := (i : Int)) (by omega) (by omega)
      exact ⟨d, fun _ => hd⟩
    · exact ⟨0, fun h => (q h).elim⟩
  obtain ⟨f, hf⟩ := Classical.axiomOfChoice h
  refine ⟨(List.range ns.length).map fun i => (f i : Int), by simp, fun x h0 h1 => ⟨f x.toNat, ?_, ?_⟩⟩
  · have := hf x.toNat (by omega)
    rwa [show ((x.toNat : Nat) : Int) = x by omega] at this
  · unfold at0
    rw [List.getD_eq_getElem?_getD, List.getElem?_map, List.getElem?_range (by omega)]
    rfl
theorem PriceL.at {ps : List Int} (h : PriceL ps) {i : Int} (h0 : 0 ≤ i) (h1 : i < ps.length) : 0 ≤ at0 ps i ∧ at0 ps i ≤ 10 ^ 30 := h.b _ (at0_mem h0 h1)
theorem dot_gr {ns ps ds : List Int} (hF : Form ns) (hd : Deps ns ds) (hP : 0 ≤ (0 : Int)) (hb : ∀ x ∈ ps, 0 ≤ x ∧ x ≤ 10 ^ 30) (hl : ps.length = ns.length) (h60 : ps.length ≤ 60) : 0 ≤ dot ps ds ps.length ∧ dot ps ds ps.length ≤ 60 * (10 ^ 30 * 200) := by
  have hl2 := hd.1
  have h150 := hF.2.1
  obtain ⟨h1, h2⟩ := dot_bnd (b := 10 ^ 30) hb (fun d hm => by have := hd.bnd hF d hm; omega) (by omega) ps.length (Nat.le_refl _)
  refine ⟨h1, Int.le_trans h2 (Int.mul_le_mul_of_nonneg_right (by omega) (by decide))⟩
theorem PriceL.small {ps : List Int} (h : PriceL ps) : ∀ x ∈ ps, x.natAbs < 10 ^ 100 := fun x hx => by
  have h1 := h.b x hx
  have h2 : (10 : Nat) ^ 30 < 10 ^ 100 := by decide
  have h3 : ((10 : Nat) ^ 30 : Nat) = ((10 : Int) ^ 30).toNat := by decide
  omega
theorem PriceL.set {ps : List Int} (h : PriceL ps) {i : Nat} {d : Int} (h0 : 0 ≤ d) (h1 : d ≤ 1000) : PriceL (ps.set i d) := by
  refine ⟨by rw [List.length_set]; exact h.l1, by rw [List.length_set]; exact h.l2, fun x hx => ?_⟩
  rcases List.mem_or_eq_of_mem_set hx with k | k
  · exact h.b x k
  · have : (1000 : Int) ≤ 10 ^ 30 := by decide
    omega
theorem PriceL.snoc {ps : List Int} (h : PriceL ps) {d : Int} (hl : ps.length < 60) (h0 : 0 ≤ d) (h1 : d ≤ 1000) : PriceL (ps ++ [d]) := by
  refine ⟨by simp, by simp; omega, fun x hx => ?_⟩
  rcases List.mem_append.mp hx with k | k
  · exact h.b x k
  · rw [List.mem_singleton] at k
    have : (1000 : Int) ≤ 10 ^ 30 := by decide
    omega
end VB

namespace VB
open PySem PySem.Spec PyProof.Rows L2
/-! ### >= of two lists of ints -/
theorem geI_first : ∀ xs ys : List Int, SeqAt.firstLt (fun j => xs.getD j 0 == ys.getD j 0) (fun j => decide (ys.getD j 0 ≤ xs.getD j 0)) (decide (ys.length ≤ xs.length)) (List.range (min xs.length ys.length)) = leI ys xs
  | [], [] => by simp [SeqAt.firstLt, leI]
  | [], y :: ys => by simp [SeqAt.firstLt, leI]
  | x :: xs, [] => by simp [SeqAt.firstLt, leI]
  | x :: xs, y :: ys => by
    have ih := geI_first xs ys
    have e1 : min (x :: xs).length (y :: ys).length = min xs.length ys.length + 1 := by simp
    rw [e1, List.range_succ_eq_map]
    unfold SeqAt.firstLt
    rw [firstLt_succ]
    unfold leI
    rw [← ih]
    by_cases e : x = y
    · subst e
      simp
    · have e2 : ¬ y = x := fun z => e z.symm
      simp [e, e2]
def rGeL (K : PySem.W.Frag) : R2 := fun x y H Q => ∃ (a b : Addr) (ns ms : List Int), x = .ref a ∧ y = .ref b ∧ SqL K H a (ns.map V.int) ∧ SqL K H b (ms.map V.int) ∧ Q (.bl (leI ms ns)) H
theorem op_geL {X : Cx} {K : PySem.W.Frag} (hK : X.K = K) (hu : X.A.units + 1 < cLine) : OpR X (compareOp .GtE) (rGeL K) := by
  subst hK
  rintro pins s σ H x y v u Q I rx ry ⟨a, b, ns, ms, rfl, rfl, ha, hb, q⟩
  cases rx
  cases ry
  obtain ⟨us, r1, p1, _⟩ := I.list ha
  obtain ⟨ws, r2, p2, _⟩ := I.list hb
  have i1 := ints_of_vals r1
  have i2 := ints_of_vals r2
  have e1 : us.toArray.size = ns.length := by rw [List.size_toArray]; exact i1.length
  have e2 : ws.toArray.size = ms.length := by rw [List.size_toArray]; exact i2.length
  have g1 : ∀ j (h1 : j < us.toArray.size), ∃ t, us.toArray[j] = .int (ns.getD j 0) t := fun j h1 => i1.int_at _ _ (by simp at h1; simp [h1])
  have g2 : ∀ j (h1 : j < ws.toArray.size), ∃ t, ws.toArray[j] = .int (ms.getD j 0) t := fun j h1 => i2.int_at _ _ (by simp at h1; simp [h1])
  have R := SeqAt.RcOp.lists_ge (A := X.A) (s := s) (e := fun j => ns.getD j 0 == ms.getD j 0) (r := fun j => decide (ms.getD j 0 ≤ ns.getD j 0)) p1.isList p2.isList (by omega)
    (fun j h1 h2 => by
      obtain ⟨t, f1⟩ := g1 j h1
      obtain ⟨t', f2⟩ := g2 j h2
      rw [f1, f2]
      exact SeqAt.EqAt.int_int _ _ _ _)
    (fun j h1 h2 _ => by
      obtain ⟨t, f1⟩ := g1 j h1
      obtain ⟨t', f2⟩ := g2 j h2
      rw [f1, f2]
      exact fun _ _ _ _ h => PyProof.Rows.ge_int h)
  rw [e1, e2, geI_first] at R
  have z : wpAny (model X.prog X.w) X.A (compareOp .GtE (.ref a) (.ref b)) (EP X pins σ Q) X.xe s := R X.prog X.w X.xe (EP X pins σ Q) ⟨.bl _, H, I, rfl, q⟩
  exact z
theorem w_geL {K : PySem.W.Frag} {H : Hp} {Q : VK} {a b : Addr} {ns ms : List Int} (h1 : SqL K H a (ns.map V.int)) (h2 : SqL K H b (ms.map V.int)) (q : Q (.bl (leI ms ns)) H) : rGeL K (.ref a) (.ref b) H Q :=
  ⟨a, b, ns, ms, rfl, rfl, h1, h2, q⟩
/-! ### < of two lists of ints -/
theorem ltI_first : ∀ xs ys : List Int, SeqAt.firstLt (fun j => xs.getD j 0 == ys.getD j 0) (fun j => decide (xs.getD j 0 < ys.getD j 0)) (decide (xs.length < ys.length)) (List.range (min xs.length ys.length)) = !leI ys xs
  | [], [] => by simp [SeqAt.firstLt, leI]
  | [], y :: ys => by simp [SeqAt.firstLt, leI]
  | x :: xs, [] => by simp [SeqAt.firstLt, leI]
  | x :: xs, y :: ys => by
    have ih := ltI_first xs ys
    have e1 : min (x :: xs).length (y :: ys).length = min xs.length ys.length + 1 := by simp
    rw [e1, List.range_succ_eq_map]
    unfold SeqAt.firstLt
    rw [firstLt_succ]
    unfold leI
    by_cases e : x = y
    · subst e
      simpa using ih
    · have e2 : ¬ y = x := fun z => e z.symm
      have e3 : decide (x < y) = !decide (y ≤ x) := by
        by_cases h : x < y
        · rw [decide_eq_true h, decide_eq_false (by omega)]
          rfl
        · rw [decide_eq_false h, decide_eq_true (by omega)]
          rfl
      have b1 : (x == y) = false := by simpa using e
      have b2 : (y == x) = false := by simpa using e2
      simp only [List.getD_cons_zero, b1, b2, Bool.false_eq_true, if_false, e3]
def rLtL (K : PySem.W.Frag) : R2 := fun x y H Q => ∃ (a b : Addr) (ns ms : List Int), x = .ref a ∧ y = .ref b ∧ SqL K H a (ns.map V.int) ∧ SqL K H b (ms.map V.int) ∧ Q (.bl (!leI ms ns)) H
theorem op_ltL {X : Cx} {K : PySem.W.Frag} (hK : X.K = K) (hu : X.A.units + 1 < cLine) : OpR X (compareOp .Lt) (rLtL K) := by
  subst hK
  rintro pins s σ H x y v u Q I rx ry ⟨a, b, ns, ms, rfl, rfl, ha, hb, q⟩
  cases rx
  cases ry
  obtain ⟨us, r1, p1, _⟩ := I.list ha
  obtain ⟨ws, r2, p2, _⟩ := I.list hb
  have i1 := ints_of_vals r1
  have i2 := ints_of_vals r2
  have e1 : us.toArray.size = ns.length := by rw [List.size_toArray]; exact i1.length
  have e2 : ws.toArray.size = ms.length := by rw [List.size_toArray]; exact i2.length
  have g1 : ∀ j (h1 : j < us.toArray.size), ∃ t, us.toArray[j] = .int (ns.getD j 0) t := fun j h1 => i1.int_at _ _ (by simp at h1; simp [h1])
  have g2 : ∀ j (h1 : j < ws.toArray.size), ∃ t, ws.toArray[j] = .int (ms.getD j 0) t := fun j h1 => i2.int_at _ _ (by simp at h1; simp [h1])
  have R := SeqAt.RcLt.lists (A := X.A) (s := s) (e := fun j => ns.getD j 0 == ms.getD j 0) (r := fun j => decide (ns.getD j 0 < ms.getD j 0)) p1.isList p2.isList (by omega)
    (fun j h1 h2 => by
      obtain ⟨t, f1⟩ := g1 j h1
      obtain ⟨t', f2⟩ := g2 j h2
      rw [f1, f2]
      exact SeqAt.EqAt.int_int _ _ _ _)
    (fun j h1 h2 _ => by
      obtain ⟨t, f1⟩ := g1 j h1
      obtain ⟨t', f2⟩ := g2 j h2
      rw [f1, f2]
      exact fun _ _ _ _ h => PyProof.Rows.lt_int h)
  rw [e1, e2, ltI_first] at R
  have z : wpAny (model X.prog X.w) X.A (compareOp .Lt (.ref a) (.ref b)) (EP X pins σ Q) X.xe s := R X.prog X.w X.xe (EP X pins σ Q) ⟨.bl _, H, I, rfl, q⟩
  exact z
theorem w_ltL {K : PySem.W.Frag} {H : Hp} {Q : VK} {a b : Addr} {ns ms : List Int} (h1 : SqL K H a (ns.map V.int)) (h2 : SqL K H b (ms.map V.int)) (q : Q (.bl (!leI ms ns)) H) : rLtL K (.ref a) (.ref b) H Q :=
  ⟨a, b, ns, ms, rfl, rfl, h1, h2, q⟩
end VB
namespace VB
open PySem PySem.Spec PyProof.Rows L2
/-! ### list(range(a, b)) where the bounds are great -/
section
variable {prog : Program} {w : World} {A : Around} {E : Value → Shared → Prop} {s : Shared}
/-- a list object with these items -/
abbrev lstO (xs : Array Value) (c : Nat) : Obj := { cls := .type "list", dict := none, data := .seq xs c, slots := #[] }
abbrev OneUp (a : Int) : Nat → Value → Prop := fun i v => ∃ t, v = .int (a + i * 1) t
/-- the filling of the new list L by the walk it over the range at r -/
theorem fill_long {R : Result → Shared → Prop} {L r : Addr} {a b : Int} {t u v : Tok} {n c : Nat} (calm : A.handled = none) (rg : IsRange s.heap r a b 1 t u v) (big : Builtin.Range.small a b 1 = false) (sz : Builtin.Range.rangeSize a b 1 = n)
    (le : n ≤ 2 ^ 24) (at_ : s.heap.get? L = some (lstO #[] c))
    (fin : ∀ g tk ys k, (∀ x o, x ≠ L → s.heap.get? x = some o → g.get? x = some o) → g.get? L = some (lstO ys k) → ItemsOf (OneUp a) ys n → R (.ok (.ret .none)) { s with heap := g, toks := tk }) :
    wpAny (model prog w) A.in1 (Builtin.List.listExtendWith (.ref L) (.ref r) .none)
      (fun e z => match e with | .done f => R (.ok f) z | .again k => k.quiet = true ∧ codeAny (model prog w) A k R z) (fun e z => R (.error e) z) s := by
  obtain ⟨it, hit⟩ : ∃ it, it = s.heap.objs.size := ⟨_, rfl⟩
  have lt := Heap.lt_size at_
  have ne1 : L ≠ r := by
    intro q
    subst q
    have e : s.heap.get? L = _ := rg
    rw [at_] at e
    simp at e
  have ne2 : L ≠ it := by rw [hit]; exact Nat.ne_of_lt lt
  have walks := (Walks.longrange (prog := prog) (w := w) (A := A.in1) calm it a 1 n).toS
  -- what the loop does, whatever stood at L ahead of it
  have loop : ∀ (g : Heap) (k tk : Nat), IsLongIter g it (a + ((0 : Nat) : Int) * 1) ((n : Int) - ((0 : Nat) : Int)) 1 → (∀ x o, x ≠ L → s.heap.get? x = some o → g.get? x = some o) → g.get? L = some (lstO #[] k) →
      codeAny (model prog w) A (.builtin "list.extend.loop" ⟨[.ref L, .ref it, .none], []⟩) R { s with heap := g, toks := tk } := fun g k tk i1 i2 i3 => by
    refine codeAny_extend_loopS walks (by rw [sizeLine_eq]; omega) L (fun m => ne2 (List.mem_singleton.mp m)) .none n 0 { s with heap := g, toks := tk } #[] k rfl (Nat.zero_le _) i1 i3 (ItemsOf.nil _) ?_
    intro z ys k' mv i4 i5
    rw [mv.eq_with]
    refine fin z.heap z.toks ys k' (fun x o nx e => mv.heap x o (fun m => ?_) (i2 x o nx e)) i4 i5
    rcases List.mem_cons.mp m with q | q
    · exact nx q
    · rw [List.mem_singleton.mp q, hit] at e
      exact Nat.lt_irrefl _ (Heap.lt_size e)
  have kinds : (Builtin.List.listSameRef (.ref L) (.ref r) = false) ∧ ((Value.type "range" == Value.type "list") = false) ∧ ((Value.type "range" == Value.type "tuple") = false) := ⟨by simp [Builtin.List.listSameRef, ne1], by decide, by decide⟩
  unfold Builtin.List.listExtendWith
  refine wpAny_bind (wpAny_typeOf (T := "range") ⟨_, rg, rfl⟩ ?_)
  simp only [kinds.1, kinds.2.1, kinds.2.2, Bool.or_false, Bool.false_eq_true, if_false]
  refine wpAny_bind (wpAny_pyIter_longrange rg big (wpAny_bind (wpAny_holding (wpAny_hint_range (n := n) (Heap.get?_push_of_some _ rg) sz le ?_))))
  obtain ⟨o, ho⟩ : ∃ o : Obj, o = { cls := .type "longrange_iterator", data := .fields #[rawInt a, rawInt (Builtin.Range.rangeSize a b 1), rawInt 1] } := ⟨_, rfl⟩
  rw [← ho, ← hit]
  have p1 : (s.heap.push o).get? it = some o := by rw [hit, ho]; exact Heap.get?_push_size _ rfl
  have p2 : IsLongIter (s.heap.push o) it (a + ((0 : Nat) : Int) * 1) ((n : Int) - ((0 : Nat) : Int)) 1 := by
    show (s.heap.push o).get? it = _
    rw [p1, ho, sz]
    simp
  have p3 := Heap.get?_push_of_some o at_
  refine wpAny_ite_split (fun _ => ?_) fun _ => wpAny_pure ⟨plainId_quiet F.plain_extend_loop _, loop _ c _ p2 (fun _ _ _ e => Heap.get?_push_of_some _ e) p3⟩
  refine wpAny_bind (wpAny_rule (wpAny_bind ?_))
  show wpAny _ _ (do updateSeq L (·.push .none); updateSeq L (·.pop)) _ _ _
  refine wpAny_bind (wpAny_updateSeq p3 rfl ?_)
  have p4 := Heap.get?_update_self (Obj.mapSeq (·.push Value.none)) p3 rfl
  refine wpAny_updateSeq (hz := by seq_fits) p4 rfl (wpAny_pure ⟨plainId_quiet F.plain_extend_loop _, loop _ _ _ ?_ (fun x q nx e => ?_) (Heap.get?_update_self (Obj.mapSeq (·.pop)) p4 rfl)⟩)
  · have q1 := Heap.get?_update_other (s.heap.push o) (Obj.mapSeq (·.push Value.none)) ne2
    have q2 := Heap.get?_update_other ((s.heap.push o).update L (Obj.mapSeq (·.push Value.none))) (Obj.mapSeq (·.pop)) ne2
    exact (q2.trans q1).trans p2
  · have q1 := Heap.get?_update_other (s.heap.push o) (Obj.mapSeq (·.push Value.none)) (Ne.symm nx)
    have q2 := Heap.get?_update_other ((s.heap.push o).update L (Obj.mapSeq (·.push Value.none))) (Obj.mapSeq (·.pop)) (Ne.symm nx)
    exact (q2.trans q1).trans (Heap.get?_push_of_some _ e)
theorem list_long {Q : Value → Shared → Prop} {r : Addr} {a b : Int} {t u v : Tok} {n : Nat} (calm : A.handled = none) (rg : IsRange s.heap r a b 1 t u v) (big : Builtin.Range.small a b 1 = false) (sz : Builtin.Range.rangeSize a b 1 = n) (le : n ≤ 2 ^ 24)
    (fin : ∀ g tk ys k, (∀ x o, s.heap.get? x = some o → g.get? x = some o) → g.get? s.heap.objs.size = some (lstO ys k) → ItemsOf (OneUp a) ys n → Q (.ref s.heap.objs.size) { s with heap := g, toks := tk }) :
    wpAny (model prog w) A (call (.type "list") [.ref r]) Q E s := by
  refine callType_codes (Q₁ := fun y z => y = .ref s.heap.objs.size ∧ z = { s with heap := s.heap.push (lstO #[] 0) }) F.called_list (F.typeCall_list_1 _) F.entry_list_init (code_list_new _ ⟨rfl, rfl⟩) ?_
  rintro _ _ ⟨rfl, rfl⟩
  obtain ⟨L, hL⟩ : ∃ L, L = s.heap.objs.size := ⟨_, rfl⟩
  rw [← hL] at fin ⊢
  have at0 : (s.heap.push (lstO #[] 0)).get? L = some (lstO #[] 0) := by rw [hL]; exact Heap.get?_push_size _ rfl
  have nr : ∀ x o, s.heap.get? x = some o → x ≠ L := fun x o e q => by
    rw [q, hL] at e
    exact Nat.lt_irrefl _ (Heap.lt_size e)
  refine ⟨⟨_, at0, rfl⟩, F.args_list_init_2 _ _, ?_⟩
  show wpAny _ _ (do let old ← Builtin.List.listItems (.ref L); Builtin.List.listUpdate (.ref L) (fun _ => #[]); letGo old.toList.reverse; Builtin.List.listExtendWith (.ref L) (.ref r) .none) _ _ _
  refine wpAny_bind ?_
  unfold Builtin.List.listItems
  refine wpAny_bind (wpAny_seqItems at0 rfl (wpAny_pure ?_))
  show wpAny _ _ (do updateSeq L (fun _ => #[]); letGo (#[] : Array Value).toList.reverse; Builtin.List.listExtendWith (.ref L) (.ref r) .none) _ _ _
  refine wpAny_bind (wpAny_updateSeq at0 rfl (wpAny_bind (wpAny_letGo ?_)))
  obtain ⟨c1, at1⟩ : ∃ c, ((s.heap.push (lstO #[] 0)).update L (Obj.mapSeq fun _ => (#[] : Array Value))).get? L = some (lstO #[] c) := ⟨_, Heap.get?_update_self _ at0 rfl⟩
  have keep : ∀ x o, s.heap.get? x = some o → ((s.heap.push (lstO #[] 0)).update L (Obj.mapSeq fun _ => (#[] : Array Value))).get? x = some o := fun x o e =>
    (Heap.get?_update_other _ _ (Ne.symm (nr x o e))).trans (Heap.get?_push_of_some _ e)
  refine fill_long (A := A.in1) (prog := prog) (w := w) (R := wants (fun y z => y = .none ∧ Q (.ref L) z) E) (s := { s with heap := (s.heap.push (lstO #[] 0)).update L (Obj.mapSeq fun _ => (#[] : Array Value)) }) calm (keep r _ rg) big sz le at1 ?_
  exact fun g tk ys k i1 i2 i3 => ⟨rfl, fin g tk ys k (fun x o e => i1 x o (nr x o e) (keep x o e)) i2 i3⟩
end
/-- list(range(a, b)), whatever the bounds -/
def LRgG (Q : VK) (a b : Int) (H : Hp) : Prop := (b - a).toNat ≤ 2 ^ 24 ∧ ∀ q, H q = none → Q (.ref q) (upd H q (.lst (rgV a b)))
def tLstRgG (te : L2.St → Hp → (Int → Int → Hp → Prop) → Prop) : TE := fun σ H Q => te σ H fun a b H1 => LRgG Q a b H1
section
variable {X : Cx} {e : Expr} {te : L2.St → Hp → (Int → Int → Hp → Prop) → Prop}
theorem pe_listRgG {p pos : Pos} (hc : X.calm = true) (hg : Gl X "list") (hm : X.mg "list" = none) (he : PRg X e te) (na : starEach [e] X.env = (false, eval e X.env) :: starEach [] X.env := by rfl) : PE X (.Call (.Name "list" p) [e] [] pos) (tLstRgG te) := by
  refine ⟨fun pins s σ H Q I h => Call_ (ld_blt I hg hm boot_list (PyProof.Rows.callWith_type1 (args_cons (thn (he pins s σ H _ I h) ?_) na) na))⟩
  rintro x s1 ⟨r, a, b, t, u, v, H1, rfl, rg, J, le, q⟩
  refine args_nil ?_
  have done : ∀ (g : Heap) (tk : Nat) (ys : Array Value) (k : Nat), (∀ x o, s1.heap.get? x = some o → g.get? x = some o) → g.get? s1.heap.objs.size = some (lstO ys k) → ItemsOf (fun i v => ∃ t, v = .int (a + i * 1) t) ys (b - a).toNat →
      EP X pins σ Q (.ref s1.heap.objs.size) { s1 with heap := g, toks := tk } := fun g tk ys k i1 i2 i3 => by
    refine ⟨.ref s1.heap.objs.size, _, J.laid i1 (Nat.le_refl _) (show ObjOk X.prog X.w _ _ _ (.lst (rgV a b)) from ⟨?_, ys.toList, k, vals_rg i3, ?_⟩), rfl, q _ (J.hok.fresh (Nat.le_refl _))⟩
    · rw [rgV_length, sizeLine_eq]
      omega
    · rw [Array.toArray_toList]
      exact i2
  cases z : Builtin.Range.small a b 1 with
  | true => exact call_list_range (n := (b - a).toNat) (J.ok.hd hc) rg z (rangeSize_nat a b) le done
  | false => exact list_long (n := (b - a).toNat) (J.ok.hd hc) rg z (rangeSize_nat a b) le done
theorem w_listRgG2 {ta tb : TE} {σ : L2.St} {H : Hp} {Q : VK} (q : ta σ H fun x H1 => tb σ H1 fun y H2 => ∃ i j, x = .int i ∧ y = .int j ∧ LRgG Q i j H2) : tLstRgG (tRg2 ta tb) σ H Q := q
theorem w_listRgG {M : List Addr} {H0 H : Hp} {W : List (Addr × HO)} {Q : VK} {a b : Int} (S : Tr M H0 H W) (l : (b - a).toNat ≤ 2 ^ 24) (k : ∀ p G, Tr M H0 G ((p, .lst ((irg a b).map V.int)) :: W) → Q (.ref p) G) : LRgG Q a b H :=
  ⟨l, fun q hq => by rw [irg_V]; exact k q _ (S.new hq)⟩
end
end VB
namespace VB
open PySem PySem.Spec PyProof.Rows L2
/-! ### xs[:] = ys, ys another list -/
section
variable {prog : Program} {w : World} {A : Around} {E : Value → Shared → Prop} {s : Shared}
theorem whole_bounds (n : Nat) : sliceBounds none none none n = ((0 : Int), (n : Int), 1) := by
  simp [sliceBounds]
theorem fill_all {l b sl : Addr} {xs ys : Array Value} {n m : Nat} {Q : Unit → Shared → Prop} (at1 : s.heap.get? l = some { cls := .type "list", data := .seq xs n }) (at2 : s.heap.get? b = some { cls := .type "list", data := .seq ys m }) (ne : l ≠ b)
    (at3 : s.heap.IsSliceOf sl .none .none .none) (sz : xs.size + ys.size ≤ sizeLine) (q : Q () { s with heap := s.heap.update l (Obj.mapSeq fun zs => zs.extract 0 0 ++ ys ++ zs.extract xs.size zs.size) }) :
    wpAny (model prog w) A (setItem (.ref l) (.ref sl) (.ref b)) Q E s := by
  obtain ⟨o, o1, o2, o3⟩ := id at3
  have tyL : s.TypeIs (.ref l) "list" := (PySem.IsL.isList at1).typeIs
  have tyB : s.TypeIs (.ref b) "list" := (PySem.IsL.isList at2).typeIs
  have tyS : s.TypeIs (.ref sl) "slice" := ⟨o, o1, o2⟩
  have other : Builtin.List.listSameRef (.ref l) (.ref b) = false := beq_eq_false_iff_ne.mpr ne
  have sz2 : ((fun zs : Array Value => zs.extract 0 0 ++ ys ++ zs.extract xs.size zs.size) xs).size ≤ sizeLine + 1 := by
    simp only [Array.size_append, Array.size_extract]
    omega
  unfold setItem
  try with_reducible refine wpAny_holding ?_
  first | refine wpAny_bind (wpAny_pure ?_) | skip
  refine wpAny_bind (wpAny_sequenceKey tyL (by decide) (wpAny_bind (wpAny_callSpecial?_slot (name := Str.ofString "__setitem__") tyL slot_list_setitem (wpAny_call_entry slot_list_setitem tyL entry_list_setitem ?_ (args_list_setitem _ _ _)))))
  show wpAny _ _ (Builtin.List.listSubscript? (.ref sl) >>= _) _ _ _
  refine wpAny_bind ?_
  unfold Builtin.List.listSubscript?
  refine wpAny_bind (wpAny_specialOf tyS slice_no_index ?_)
  simp only [Option.isNone_none, if_true]
  refine wpAny_pure ?_
  show wpAny _ _ (typeOf (.ref sl) >>= _) _ _ _
  refine wpAny_bind (wpAny_typeOf tyS ?_)
  first | rw [if_neg (by decide)] | refine PySem.W.KFB.if_not (by decide) ?_
  rw [listSliceParts_eq]
  refine wpAny_bind (wpAny_bind (wpAny_field o1 o3 (x := .none) rfl (wpAny_bind (wpAny_listPart .none ?_))))
  rw [if_neg (show ¬ ((rawPart none == rawInt 0) = true) from Bool.false_ne_true)]
  refine wpAny_bind (wpAny_field o1 o3 (x := .none) rfl (wpAny_bind (wpAny_listPart .none (wpAny_bind (wpAny_field o1 o3 (x := .none) rfl (wpAny_bind (wpAny_listPart .none (wpAny_pure ?_)))))))) 
  first
    | simp only [other, Bool.false_eq_true, if_false]
    | refine PySem.W.KFB.if_not other ?_
    | (dsimp only
       rw [if_neg (by rw [other]; exact Bool.false_ne_true)])
  refine wpAny_bind (m := Builtin.List.listAllItems (.ref b) "must assign iterable to extended slice") ?_
  unfold Builtin.List.listAllItems
  refine wpAny_bind (wpAny_typeOf tyB ?_)
  first
    | refine PySem.W.KFB.if_so (by decide) ?_
    | rw [if_pos (by decide)]
    | simp only [beq_self_eq_true, Bool.true_or, if_true]
  unfold Builtin.List.listItems
  refine wpAny_bind (wpAny_seqItems at2 rfl (wpAny_pure (wpAny_bind (wpAny_bind (wpAny_seqItems at1 rfl (wpAny_pure ?_))))))
  refine wpAny_bind (wpAny_of_eq ((sliceIndices_raw none none none xs.size (by simp)).trans (congrArg (pure : Int × Int × Int → Sem (Int × Int × Int)) (whole_bounds xs.size))) ?_)
  show wpAny _ _ (if ((1 : Int) == 1) = true then _ else _) _ _ _
  rw [if_pos (by decide)]
  refine wpAny_bind (wpAny_rule ?_)
  first
    | simp only [notLongL sz, Bool.false_eq_true, if_false]
    | refine PySem.W.KFB.if_not (notLongL sz) ?_
  first | refine wpAny_bind (wpAny_pure ?_) | skip
  show wpAny _ _ (updateSeq l (fun zs => zs.extract 0 ((0 : Int)).toNat ++ ys ++ zs.extract (max (0 : Int) (xs.size : Int)).toNat zs.size) >>= _) _ _ _
  rw [show (max (0 : Int) (xs.size : Int)).toNat = xs.size by omega, Int.toNat_zero]
  refine wpAny_bind (wpAny_updateSeq (hz := Nat.le_trans (Nat.le_add_right _ _) sz) (_hz' := sz2) at1 rfl (wpAny_bind (wpAny_letGo ?_)))
  first
    | exact wpAny_bind (wpAny_pure (wpAny_pure ⟨.none, rfl, wpAny_pure q⟩))
    | exact wpAny_pure ⟨.none, rfl, wpAny_pure q⟩
end
/-- the slice [:] itself -/
def SlO (p : Addr) : HO := .ext fun h => h.IsSliceOf p .none .none .none
section
variable {X : Cx} {pos : Pos}
def tSlW : TE := fun _ H Q => ∀ p, H p = none → Q (.ref p) (upd H p (SlO p))
theorem pe_slW : PE X (.Slice none none none pos) tSlW := by
  refine ⟨fun pins s σ H Q I h => wpAny_Slice (wpAny_pure (wpAny_pure (wpAny_pure ?_)))⟩
  have e : (s.heap.push { cls := .type "slice", data := .fields #[.none, .none, .none] }).IsSliceOf s.heap.objs.size .none .none .none := ⟨_, Heap.get?_push_size _ rfl, rfl, rfl⟩
  refine ⟨V.ref s.heap.objs.size, _, I.laid (t' := s.toks) (fun b u q => Heap.get?_push_of_some _ q) (Nat.le_refl _) (o := SlO s.heap.objs.size) ⟨e, ⟨_, Heap.get?_push_size _ rfl⟩, fun h1 h2 ⟨o, o1, o2⟩ k => ⟨o, k _ o1, o2⟩⟩, rfl, h _ (I.hok.fresh (Nat.le_refl _))⟩
def rSetW : TSet := fun o i v H Q => ∃ (l b sl : Addr) (xs ys : List V), o = .ref l ∧ i = .ref sl ∧ v = .ref b ∧ H sl = some (SlO sl) ∧ H l = some (.lst xs) ∧ H b = some (.lst ys) ∧ l ≠ b ∧ xs.length + ys.length ≤ 100000 ∧ Q (upd H l (.lst ys))
theorem set_all : PSet X rSetW := by
  rintro pins s σ H o i v ov iv u Q I ro ri rv ⟨l, b, sl, xs, ys, rfl, rfl, rfl, h3, h1, h2, ne, z, q⟩
  cases ro
  cases ri
  cases rv
  obtain ⟨z1, its, n, r, hl, e⟩ := I.lstM h1
  obtain ⟨z2, its2, n2, r2, hl2, e2⟩ := I.lstM h2
  have hs : s.heap.IsSliceOf sl .none .none .none := (I.hok sl _ h3).1
  have hz : its.toArray.size + its2.toArray.size ≤ sizeLine := by
    rw [List.size_toArray, List.size_toArray, ← hl, ← hl2, sizeLine_eq]
    omega
  refine fill_all e e2 ne hs hz ⟨_, ?_, q⟩
  refine I.lset (its' := its2) (t' := s.toks) h1 e ?_ r2 (by rw [sizeLine_eq]; omega)
  simp
theorem w_setW {M : List Addr} {H0 H : Hp} {W : List (Addr × HO)} {l b sl : Addr} {xs ys : List V} {N : Hp → Prop} (S : Tr M H0 H W) (n : Nat) (h : W[n]? = some (l, .lst xs)) (h3 : H sl = some (SlO sl)) (h2 : H b = some (.lst ys)) (ne : l ≠ b)
    (z : xs.length + ys.length ≤ 100000) (q : ∀ G, Tr M H0 G (W.set n (l, .lst ys)) → N G) : rSetW (.ref l) (.ref sl) (.ref b) H N :=
  ⟨l, b, sl, xs, ys, rfl, rfl, rfl, h3, S.get n h, h2, ne, z, q _ (S.putN n h)⟩
theorem pg_all {o : Expr} {te : TE} {p2 : Pos} (ho : PE X o te) : PG X (.Subscript o (.Slice none none none p2) pos) (gSub te tSlW rSetW) where
  run pins s σ H v u Q I r h := by
    rw [arm_assign_Subscript]
    refine wpAny_bind (wpAny_holding (thn (ho.run pins s σ H _ I h) ?_))
    rintro w1 s1 ⟨x, H1, J1, r1, q1⟩
    refine wpAny_bind (wpAny_holding (thn (pe_slW.run pins s1 σ H1 _ J1 q1) ?_))
    rintro w2 s2 ⟨y, H2, J2, r2, q2⟩
    refine wpAny_bind (wpAny_standAt (wpAny_bind (wpAny_holding (thn (set_all pins s2 σ H2 x y v w1 w2 u _ J2 r1 r2 r q2) ?_))))
    rintro _ s3 ⟨H3, J3, q3⟩
    exact wpAny_release ⟨σ, H3, J3, q3⟩
end
end VB

namespace VB
open PySem PySem.Spec PyProof.Rows L2
/-! ### a log on the newest entry of another one -/
def shf (j : Int) (cs : List Int) : List Int := cs.map fun c => c + j
theorem shf_len {j : Int} {cs : List Int} : (shf j cs).length = cs.length := List.length_map ..
theorem shf_mem {j x : Int} {cs : List Int} : x ∈ shf j cs ↔ x - j ∈ cs := by
  unfold shf
  rw [List.mem_map]
  constructor
  · rintro ⟨c, h, rfl⟩
    rwa [show c + j - j = c by omega]
  · intro h
    exact ⟨_, h, by omega⟩
theorem shf_cons {j c : Int} {cs : List Int} : shf j (c :: cs) = (c + j) :: shf j cs := rfl
def stk (lo up : List Int) : List Int := lo ++ shf ((lo.length : Int) - 1) (up.drop 1)
structure Stk (lo up ns : List Int) (j : Int) : Prop where
  jl : j = (lo.length : Int) - 1
  j0 : 0 ≤ j
  u1 : 1 ≤ up.length
  len : (ns.length : Int) = j + up.length
  low : ∀ i : Int, 0 ≤ i → i ≤ j → at0 ns i = at0 lo i
  high : ∀ i : Int, 1 ≤ i → i < up.length → at0 ns (i + j) = at0 up i + j
theorem stk_ok {lo up : List Int} (h1 : 1 ≤ lo.length) (h2 : 1 ≤ up.length) : Stk lo up (stk lo up) ((lo.length : Int) - 1) := by
  refine ⟨rfl, by omega, h2, ?_, fun i h0 h3 => ?_, fun i h0 h3 => ?_⟩
  · unfold stk
    rw [List.length_append, shf_len, List.length_drop]
    omega
  · unfold stk at0
    rw [List.getD_eq_getElem?_getD, List.getD_eq_getElem?_getD, List.getElem?_append_left (by omega)]
  · unfold stk at0 shf
    have e : (i + ((lo.length : Int) - 1)).toNat = lo.length + (i.toNat - 1) := by omega
    rw [e, List.getD_eq_getElem?_getD, List.getD_eq_getElem?_getD, List.getElem?_append_right (by omega), List.getElem?_map, List.getElem?_drop]
    rw [show 1 + (lo.length + (i.toNat - 1) - lo.length) = i.toNat by omega, List.getElem?_eq_getElem (by omega)]
    rfl
section
variable {lo up ns : List Int} {j : Int}
theorem Form.at {ns : List Int} (h : Form ns) {i : Int} (h0 : 0 ≤ i) (h1 : i < ns.length) : 0 ≤ at0 ns i ∧ at0 ns i ≤ max 0 (i - 1) := by
  obtain ⟨n, rfl⟩ : ∃ n : Nat, i = (n : Int) := ⟨i.toNat, by omega⟩
  have hi : n < ns.length := by omega
  rw [at0_get hi]
  exact h.2.2 n hi
theorem form_atI {ns : List Int} (h1 : 1 ≤ ns.length) (h2 : ns.length ≤ 150) (h : ∀ i : Int, 0 ≤ i → i < ns.length → 0 ≤ at0 ns i ∧ at0 ns i ≤ max 0 (i - 1)) : Form ns := by
  refine ⟨h1, h2, fun i hi => ?_⟩
  have := h (i : Int) (by omega) (by omega)
  rwa [at0_get hi] at this
theorem nc_iff {ns : List Int} : NoCross ns ↔ ∀ x y : Int, 1 ≤ x → x < y → y < ns.length → ¬ (at0 ns x < at0 ns y ∧ at0 ns y < x) := by
  constructor
  · intro h x y h1 h2 h3 ⟨h4, h5⟩
    exact h x.toNat y.toNat ⟨by omega, by omega, at0 ns x, at0 ns y, at0_get? (by omega) (by omega), at0_get? (by omega) (by omega), h4, by omega⟩
  · rintro h i k ⟨h1, h2, a, b, h3, h4, h5, h6⟩
    obtain ⟨hi, ea⟩ := List.getElem?_eq_some_iff.mp h3
    obtain ⟨hk, eb⟩ := List.getElem?_eq_some_iff.mp h4
    refine h (i : Int) (k : Int) (by omega) (by omega) (by omega) ?_
    rw [at0_get hi, at0_get hk, ea, eb]
    exact ⟨h5, h6⟩
theorem Stk.log (T : Stk lo up ns j) (hL : Log lo) (hU : Log up) (h : ns.length ≤ 150) : Log ns := by
  have t1 := T.jl
  have t2 := T.j0
  have t3 := T.u1
  have t4 := T.len
  refine ⟨form_atI (by omega) h fun i h0 h1 => ?_, nc_iff.mpr fun x y h1 h2 h3 => ?_⟩
  · by_cases q : i ≤ j
    · rw [T.low i h0 q]
      exact hL.form.at h0 (by omega)
    · have := T.high (i - j) (by omega) (by omega)
      rw [show i - j + j = i by omega] at this
      have h5 := hU.form.at (i := i - j) (by omega) (by omega)
      omega
  · by_cases qy : y ≤ j
    · rw [T.low x (by omega) (by omega), T.low y (by omega) qy]
      exact nc_iff.mp hL.nc x y h1 h2 (by omega)
    · have ey := T.high (y - j) (by omega) (by omega)
      rw [show y - j + j = y by omega] at ey
      have fy := hU.form.at (i := y - j) (by omega) (by omega)
      by_cases qx : x ≤ j
      · rw [T.low x (by omega) qx]
        omega
      · have ex := T.high (x - j) (by omega) (by omega)
        rw [show x - j + j = x by omega] at ex
        rw [ex, ey]
        have := nc_iff.mp hU.nc (x - j) (y - j) (by omega) (by omega) (by omega)
        omega
/-- a shortest chain within the lower part -/
theorem Stk.fcL (T : Stk lo up ns j) (hF : Form lo) {e s : Int} {cs : List Int} (h0 : 0 ≤ e) (h : FC lo e s cs) : s ≤ j → FC ns e s cs := by
  have t1 := T.jl
  induction h with
  | one => intro _; exact .one
  | @link s cs h hl t ih =>
    intro hs
    have := at0_lt hF (i := s) (by omega) (by omega)
    have e1 := T.low s (by omega) hs
    exact .link h (by omega) (by rw [e1]; exact ih (by omega))
  | @step s cs h hl t ih =>
    intro hs
    have e1 := T.low s (by omega) hs
    exact .step h (by omega) (ih (by omega))
theorem Stk.fcU (T : Stk lo up ns j) (hF : Form up) {e s : Int} {cs : List Int} (h0 : 0 ≤ e) (h : FC up e s cs) : s < up.length → FC ns (e + j) (s + j) (shf j cs) := by
  induction h with
  | one => intro _; exact .one
  | @link s cs h hl t ih =>
    intro hs
    have := at0_lt hF (i := s) (by omega) (by omega)
    have e1 := T.high s (by omega) hs
    exact .link (by omega) (by omega) (by rw [e1]; exact ih (by omega))
  | @step s cs h hl t ih =>
    intro hs
    have e1 := T.high s (by omega) hs
    exact .step (by omega) (by omega) (by rw [show s + j - 1 = s - 1 + j by omega]; exact ih (by omega))
/-- one from above the joint to below it -/
theorem Stk.fcJ (T : Stk lo up ns j) (hF : Form up) (hFl : Form lo) {e s : Int} {cs ds : List Int} (h0 : 0 ≤ e) (hd : FC lo e j ds) (hej : e ≤ j) (h : FC up 0 s cs) : s < up.length → FC ns e (s + j) (shf j cs ++ ds.drop 1) := by
  have hdL := T.fcL hFl h0 hd (Int.le_refl _)
  induction h with
  | one =>
    intro _
    obtain ⟨r, rfl⟩ := hdL.head
    rw [shf_cons, Int.zero_add]
    exact hdL
  | @link s cs h hl t ih =>
    intro hs
    have := at0_lt hF (i := s) (by omega) (by omega)
    have e1 := T.high s (by omega) hs
    exact .link (by omega) (by omega) (by rw [e1]; exact ih (by omega))
  | @step s cs h hl t ih =>
    intro hs
    have := at0_lt hF (i := s) (by omega) (by omega)
    omega
theorem Stk.cnL (T : Stk lo up ns j) (hF : Form lo) {e : Int} (h0 : 0 ≤ e) : ∀ (n : Nat) (s : Int), s - e = n → s ≤ j → cn ns e s = cn lo e s := by
  have t1 := T.jl
  intro n
  induction n using Nat.strongRecOn with
  | ind n ih =>
    intro s hs hj
    by_cases q : n = 0
    · rw [show s = e by omega, cn_end, cn_end]
    · have := at0_lt hF (i := s) (by omega) (by omega)
      have e1 := T.low s (by omega) hj
      have i1 := ih (n - 1) (by omega) (s - 1) (by omega) (by omega)
      by_cases q2 : at0 lo s < s - 1 ∧ e ≤ at0 lo s
      · rw [cn_link (by omega) q2.1 q2.2, cn_link (by omega) (by omega) (by omega), e1, i1, ih (at0 lo s - e).toNat (by omega) (at0 lo s) (by omega) (by omega)]
      · rw [cn_step (by omega) q2, cn_step (by omega) (by omega), i1]
theorem Stk.cnU (T : Stk lo up ns j) (hF : Form up) {e : Int} (h0 : 0 ≤ e) : ∀ (n : Nat) (s : Int), s - e = n → s < up.length → cn ns (e + j) (s + j) = cn up e s := by
  intro n
  induction n using Nat.strongRecOn with
  | ind n ih =>
    intro s hs hj
    by_cases q : n = 0
    · rw [show s = e by omega, cn_end, cn_end]
    · have := at0_lt hF (i := s) (by omega) (by omega)
      have e1 := T.high s (by omega) hj
      have i1 := ih (n - 1) (by omega) (s - 1) (by omega) (by omega)
      rw [show s - 1 + j = s + j - 1 by omega] at i1
      by_cases q2 : at0 up s < s - 1 ∧ e ≤ at0 up s
      · rw [cn_link (by omega) q2.1 q2.2, cn_link (by omega) (by omega) (by omega), e1, i1, ih (at0 up s - e).toNat (by omega) (at0 up s) (by omega) (by omega)]
      · rw [cn_step (by omega) q2, cn_step (by omega) (by omega), i1]
theorem Stk.cnJ (T : Stk lo up ns j) (hF : Form up) (hFl : Form lo) {e : Int} (h0 : 0 ≤ e) (hej : e ≤ j) : ∀ (n : Nat) (s : Int), s = n → s < up.length → cn ns e (s + j) = cn up 0 s * cn lo e j := by
  intro n
  induction n using Nat.strongRecOn with
  | ind n ih =>
    intro s hs hj
    by_cases q : n = 0
    · rw [show s = 0 by omega, cn_end, Int.zero_add, Int.one_mul, T.cnL hFl h0 (j - e).toNat j (by omega) (Int.le_refl _)]
    · have := at0_lt hF (i := s) (by omega) (by omega)
      have e1 := T.high s (by omega) hj
      have i1 := ih (n - 1) (by omega) (s - 1) (by omega) (by omega)
      rw [show s - 1 + j = s + j - 1 by omega] at i1
      by_cases q2 : at0 up s < s - 1
      · rw [cn_link (ns := up) (by omega) q2 (by omega), cn_link (by omega) (by omega) (by omega), e1, i1, ih (at0 up s).toNat (by omega) (at0 up s) (by omega) (by omega), Int.add_mul]
      · rw [cn_step (ns := up) (by omega) (by omega), cn_step (by omega) (by omega), i1]
theorem Stk.blJ (T : Stk lo up ns j) (hF : Form up) (hFl : Form lo) {e s : Int} (h0 : 0 ≤ e) (hej : e ≤ j) (hs : 0 < s) (hu : s < up.length) : bl ns e (s + j) = bl up 0 s * cn lo e j := by
  have h1 := cn_bl (ns := ns) (e := e) (x := s + j) (by omega)
  have h2 := cn_bl (ns := up) (e := 0) (x := s) (by omega)
  rw [T.cnJ hF hFl h0 hej s.toNat s (by omega) hu, show s + j - 1 = s - 1 + j by omega, T.cnJ hF hFl h0 hej (s - 1).toNat (s - 1) (by omega) (by omega), h2, Int.add_mul] at h1
  omega
theorem Stk.ncL (T : Stk lo up ns j) (hF : Form lo) {e s n : Int} {cs : List Int} (h0 : 0 ≤ e) (h : NC lo e s n cs) : s ≤ j → NC ns e s n cs := by
  have t1 := T.jl
  induction h with
  | one => intro _; exact .one
  | @link s n cs h hl h2 t ih =>
    intro hs
    have := at0_lt hF (i := s) (by omega) (by omega)
    have e1 := T.low s (by omega) hs
    exact .link h (by omega) (by omega) (by rw [e1]; exact ih (by omega))
  | @step s n cs h t ih =>
    intro hs
    have e1 := T.low s (by omega) hs
    have := at0_lt hF (i := s) (by omega) (by omega)
    have eb : bl ns e s = bl lo e s := by
      have h1 := cn_bl (ns := ns) (e := e) (x := s) h
      have h2 := cn_bl (ns := lo) (e := e) (x := s) h
      rw [T.cnL hF h0 (s - e).toNat s (by omega) hs, T.cnL hF h0 (s - 1 - e).toNat (s - 1) (by omega) (by omega)] at h1
      omega
    rw [← eb]
    exact .step h (ih (by omega))
theorem Stk.ncJ (T : Stk lo up ns j) (hF : Form up) (hFl : Form lo) {e s n m : Int} {cs ds : List Int} (h0 : 0 ≤ e) (hej : e ≤ j) (hd : NC lo e j m ds) (h : NC up 0 s n cs) : s < up.length → NC ns e (s + j) (n * cn lo e j + m) (shf j cs ++ ds.drop 1) := by
  have hdL := T.ncL hFl h0 hd (Int.le_refl _)
  induction h with
  | one =>
    intro _
    obtain ⟨r, rfl⟩ := hdL.head
    rw [shf_cons, Int.zero_add, Int.zero_mul, Int.zero_add]
    exact hdL
  | @link s n cs h hl h2 t ih =>
    intro hs
    have := at0_lt hF (i := s) (by omega) (by omega)
    have e1 := T.high s (by omega) hs
    exact .link (by omega) (by omega) (by omega) (by rw [e1]; exact ih (by omega))
  | @step s n cs h t ih =>
    intro hs
    have := at0_lt hF (i := s) (by omega) (by omega)
    rw [Int.add_mul, Int.add_assoc, ← T.blJ hF hFl h0 hej h hs]
    refine NC.step (by omega) ?_
    rw [show s + j - 1 = s - 1 + j by omega]
    exact ih (by omega)
/-- the joint is the greatest entry below -/
theorem Stk.below (T : Stk lo up ns j) (hFl : Form lo) {e : Int} {ds : List Int} (h0 : 0 ≤ e) (hd : FC lo e j ds) : ∀ x ∈ ds.drop 1, x < j := by
  have t1 := T.jl
  have hp := hd.desc hFl h0 (by omega)
  obtain ⟨r, rfl⟩ := hd.head
  intro x hx
  exact (List.pairwise_cons.mp hp).1 x hx
theorem Stk.maxJ (T : Stk lo up ns j) (hF : Form up) (hFl : Form lo) {e f s t : Int} {cs ds cs' ds' ls ks : List Int} {r r' : Option Int} (h0 : 0 ≤ e) (hf : 0 ≤ f) (hs : s < up.length) (ht : t < up.length) (hc : FC up 0 s cs) (hc' : FC up 0 t cs') (hd : FC lo e j ds) (hd' : FC lo f j ds')
    (hl : ∀ c, c ∈ ls ↔ c ∈ cs ∧ c ∈ cs') (hr : MaxO ls r) (hk : ∀ c, c ∈ ks ↔ c ∈ shf j cs ++ ds.drop 1 ∧ c ∈ shf j cs' ++ ds'.drop 1) (hr' : MaxO ks r') : ∃ m, r = some m ∧ r' = some (m + j) ∧ 0 ≤ m ∧ m < up.length := by
  have hz : (0 : Int) ∈ ls := (hl 0).mpr ⟨hc.end_mem, hc'.end_mem⟩
  cases r with
  | none => rw [show ls = [] from hr] at hz; exact (List.not_mem_nil hz).elim
  | some m =>
    have b1 := T.below hFl h0 hd
    have b2 := T.below hFl hf hd'
    obtain ⟨g1, g2⟩ := hr
    obtain ⟨g3, g4⟩ := (hl m).mp g1
    have g5 := hc.mem_le hF (Int.le_refl _) hs m g3
    have hm : m + j ∈ ks := (hk _).mpr ⟨List.mem_append.mpr (.inl (shf_mem.mpr (by rwa [show m + j - j = m by omega]))), List.mem_append.mpr (.inl (shf_mem.mpr (by rwa [show m + j - j = m by omega])))⟩
    refine ⟨m, rfl, MaxO.same hr' ⟨hm, fun y hy => ?_⟩, g5.1, by omega⟩
    obtain ⟨k1, k2⟩ := (hk y).mp hy
    by_cases q : y ≤ m + j
    · exact q
    · have q1 : y - j ∈ cs := by
        rcases List.mem_append.mp k1 with k | k
        · exact shf_mem.mp k
        · have := b1 y k; omega
      have q2 : y - j ∈ cs' := by
        rcases List.mem_append.mp k2 with k | k
        · exact shf_mem.mp k
        · have := b2 y k; omega
      have := g2 _ ((hl _).mpr ⟨q1, q2⟩)
      omega
/-! depths -/
theorem FC.gd {ns : List Int} {e s : Int} {cs : List Int} (h : FC ns e s cs) : GD ns e s (cs.length - 1) := by
  induction h with
  | one => exact .zero
  | @link s cs h hl t ih =>
    obtain ⟨r, rfl⟩ := t.head
    exact .link h hl ih
  | @step s cs h hl t ih =>
    obtain ⟨r, rfl⟩ := t.head
    exact .step h hl ih
theorem FC.dep {ns ds cs : List Int} (hL : Log ns) (hd : Deps ns ds) {e : Int} (h0 : 0 ≤ e) (h1 : e < ns.length) (h : FC ns e ((ns.length : Int) - 1) cs) : at0 ds e = (cs.length - 1 : Nat) := by
  obtain ⟨d, g1, g2⟩ := hd.2 e h0 h1
  have := (h.gd.dst hL h0 h1).uniq g1
  omega
theorem at0_app {xs ys : List Int} {i : Int} (h0 : 0 ≤ i) : at0 (xs ++ ys) i = if i < xs.length then at0 xs i else at0 ys (i - xs.length) := by
  unfold at0
  rw [List.getD_eq_getElem?_getD, List.getD_eq_getElem?_getD, List.getD_eq_getElem?_getD]
  by_cases q : i < xs.length
  · rw [if_pos q, List.getElem?_append_left (by omega)]
  · rw [if_neg q, List.getElem?_append_right (by omega)]
    congr 2
    omega
theorem at0_shf {xs : List Int} {i h : Int} (h0 : 0 ≤ i) (h1 : i < xs.length) : at0 (shf h xs) i = at0 xs i + h := by
  unfold at0 shf
  rw [List.getD_eq_getElem?_getD, List.getD_eq_getElem?_getD, List.getElem?_map, List.getElem?_eq_getElem (by omega)]
  rfl
theorem at0_take {xs : List Int} {i : Int} {n : Nat} (h0 : 0 ≤ i) (h1 : i < n) : at0 (xs.take n) i = at0 xs i := by
  unfold at0
  rw [List.getD_eq_getElem?_getD, List.getD_eq_getElem?_getD, List.getElem?_take_of_lt (by omega)]
theorem Stk.deps (T : Stk lo up ns j) (hL : Log lo) (hU : Log up) (hN : Log ns) {dl du dn : List Int} (h1 : Deps lo dl) (h2 : Deps up du) (h3 : Deps ns dn) : dn = shf (at0 du 0) (dl.take (dl.length - 1)) ++ du := by
  have t1 := T.jl
  have t2 := T.j0
  have t3 := T.u1
  have t4 := T.len
  have l1 := h1.1
  have l2 := h2.1
  have l3 := h3.1
  have e1 : (shf (at0 du 0) (dl.take (dl.length - 1))).length = dl.length - 1 := by rw [shf_len, List.length_take]; omega
  refine ints_ext (by rw [List.length_append, e1]; omega) fun i hi => ?_
  rw [at0_app (by omega), e1]
  have eN : (ns.length : Int) - 1 = (up.length : Int) - 1 + j := by omega
  obtain ⟨c0, hc0⟩ := FC.ex' hU.form (e := 0) (s := (up.length : Int) - 1) (by omega) (by omega) (by omega)
  have d0 := hc0.dep hU h2 (Int.le_refl _) (by omega)
  have p0 : 1 ≤ c0.length := by obtain ⟨r, rfl⟩ := hc0.head; simp
  by_cases q : (i : Int) < ((dl.length - 1 : Nat) : Int)
  · rw [if_pos q, at0_shf (by omega) (by rw [List.length_take]; omega), at0_take (by omega) q, d0]
    obtain ⟨cl, hcl⟩ := FC.ex' hL.form (e := (i : Int)) (s := j) (by omega) (by omega) (by omega)
    have dlo := (show FC lo (i : Int) ((lo.length : Int) - 1) cl by rwa [← t1]).dep hL h1 (by omega) (by omega)
    have pl : 1 ≤ cl.length := by obtain ⟨r, rfl⟩ := hcl.head; simp
    have hj := T.fcJ hU.form hL.form (by omega) hcl (by omega) hc0 (by omega)
    rw [← eN] at hj
    have dn := hj.dep hN h3 (by omega) (by omega)
    rw [dn, dlo, List.length_append, shf_len, List.length_drop]
    omega
  · rw [if_neg q]
    obtain ⟨cu, hcu⟩ := FC.ex' hU.form (e := (i : Int) - j) (s := (up.length : Int) - 1) (by omega) (by omega) (by omega)
    have du' := hcu.dep hU h2 (by omega) (by omega)
    have hj := T.fcU hU.form (by omega) hcu (by omega)
    rw [← eN, show (i : Int) - j + j = i by omega] at hj
    have dn := hj.dep hN h3 (by omega) (by omega)
    rw [dn, shf_len, show (i : Int) - ((dl.length - 1 : Nat) : Int) = i - j by omega, du']
end
/-! costs -/
def dotL : List Int → List Int → Int
  | p :: ps, d :: ds => p * d + dotL ps ds
  | _, _ => 0
theorem dot_cons (p d : Int) (ps ds : List Int) (n : Nat) : dot (p :: ps) (d :: ds) (n + 1) = p * d + dot ps ds n := by
  unfold dot
  rw [List.range_succ_eq_map, List.map_cons, List.map_map, List.sum_cons]
  rfl
theorem dot_dotL : ∀ (ps ds : List Int), ps.length = ds.length → dot ps ds ps.length = dotL ps ds
  | [], [], _ => rfl
  | p :: ps, d :: ds, h => by
    rw [List.length_cons, dot_cons, dot_dotL ps ds (by simpa using h)]
    rfl
theorem dotL_app : ∀ (ps ds qs es : List Int), ps.length = ds.length → dotL (ps ++ qs) (ds ++ es) = dotL ps ds + dotL qs es
  | [], [], qs, es, _ => by rw [List.nil_append, List.nil_append]; show _ = 0 + _; omega
  | p :: ps, d :: ds, qs, es, h => by
    show p * d + dotL (ps ++ qs) (ds ++ es) = p * d + dotL ps ds + _
    rw [dotL_app ps ds qs es (by simpa using h)]
    omega
theorem dotL_shf (h : Int) : ∀ (ps ds : List Int), ps.length = ds.length → dotL ps (shf h ds) = dotL ps ds + h * ps.sum
  | [], [], _ => by show (0 : Int) = 0 + h * 0; omega
  | p :: ps, d :: ds, k => by
    rw [shf_cons]
    show p * (d + h) + dotL ps (shf h ds) = p * d + dotL ps ds + h * (p :: ps).sum
    rw [dotL_shf h ps ds (by simpa using k), List.sum_cons, Int.mul_add, Int.mul_add, Int.mul_comm p h]
    omega
theorem dotL_zero : ∀ (ps : List Int) (x : Int), dotL (ps ++ [0]) (List.replicate 0 0) = 0
  | [], _ => rfl
  | _ :: _, _ => rfl
theorem cost_join {ps dl du : List Int} {n : Nat} (hn : dl.length = n + 1) (hp : ps.length = n + du.length) :
    dotL ps (shf (at0 du 0) (dl.take n) ++ du) = dotL (ps.drop n) du + dotL (ps.take n ++ [0]) dl + at0 du 0 * (ps.take n).sum := by
  have e1 : dotL ps (shf (at0 du 0) (dl.take n) ++ du) = dotL (ps.take n ++ ps.drop n) (shf (at0 du 0) (dl.take n) ++ du) := by rw [List.take_append_drop]
  have el : (ps.take n).length = (dl.take n).length := by rw [List.length_take, List.length_take]; omega
  rw [e1, dotL_app _ _ _ _ (by rw [shf_len]; exact el), dotL_shf _ _ _ el]
  obtain ⟨x, hx⟩ : ∃ x, dl = dl.take n ++ [x] := by
    refine ⟨dl[n], ?_⟩
    have h1 := List.take_append_drop n dl
    rw [List.drop_eq_getElem_cons (by omega), List.drop_of_length_le (by omega)] at h1
    exact h1.symm
  have e2 : dotL (ps.take n ++ [0]) dl = dotL (ps.take n) (dl.take n) := by
    rw [hx, dotL_app _ _ _ _ el]
    rw [List.take_left' (by rw [List.length_take]; omega)]
    show _ + (0 * x + 0) = _
    omega
  rw [e2]
  omega
theorem LT.next {ns ts : List Int} {i : Nat} (hL : Log ns) (hi : 1 ≤ i) (hn : i < ns.length) (h : LT (ns.take i) ts) : LT (ns.take (i + 1)) (ts.filter (fun t => decide (t ≤ at0 ns (i : Int))) ++ [(i : Int)]) := by
  have e1 : ns.take (i + 1) = ns.take i ++ [at0 ns (i : Int)] := by
    rw [at0_get hn, List.take_succ_eq_append_getElem hn]
  have el : (ns.take i).length = i := by rw [List.length_take]; omega
  have ec : (ns.take (i + 1)).length = i + 1 := by rw [List.length_take]; omega
  have hg : ∀ k a, (ns.take (i + 1))[k]? = some a → ns[k]? = some a := fun k a hk => by
    have := (List.getElem?_eq_some_iff.mp hk).1
    rwa [List.getElem?_take_of_lt (by omega)] at hk
  refine ⟨form_atI (by omega) (by have := hL.form.2.1; omega) fun k h0 h1 => ?_, ?_, ?_, fun t => ?_⟩
  · rw [at0_take h0 (by omega)]
    exact hL.form.at h0 (by omega)
  · rintro a b ⟨c1, c2, x, y, c3, c4, c5⟩
    exact hL.nc a b ⟨c1, c2, x, y, hg _ _ c3, hg _ _ c4, c5⟩
  · rw [List.pairwise_append]
    refine ⟨h.asc.sublist List.filter_sublist, by simp, fun a ha b hb => ?_⟩
    have e : b = i := by simpa using hb
    have := ((h.mem a).mp (List.mem_filter.mp ha).1).2.1
    omega
  · rw [e1, allow_snoc, List.mem_append, List.mem_filter, h.mem, el]
    simp
theorem LT.first {ns : List Int} (hL : Log ns) : LT (ns.take 1) [0] := by
  have h1 := hL.form.1
  have e : ns.take 1 = [0] := by
    have h2 := hL.form.nat (i := 0) h1
    rw [show (1 : Nat) = 0 + 1 from rfl, List.take_succ_eq_append_getElem (by omega), List.take_zero]
    simp
    omega
  rw [e]
  exact LT.one

theorem w_intA {QP : Int → Prop} {i : Int} (q : QP i) : ∃ j, [V.int i] = [V.int j] ∧ QP j := ⟨i, rfl, q⟩
theorem sum_bnd {b : Int} : ∀ (ps : List Int), (∀ x ∈ ps, 0 ≤ x ∧ x ≤ b) → 0 ≤ ps.sum ∧ ps.sum ≤ ps.length * b
  | [], _ => by simp
  | p :: ps, h => by
    have h1 := h p (List.mem_cons_self ..)
    have h2 := sum_bnd ps fun x hx => h x (List.mem_cons_of_mem _ hx)
    rw [List.sum_cons, List.length_cons, Int.natCast_add, Int.add_mul]
    omega
theorem cut_init {xs : List Int} (h : 1 ≤ xs.length) : cutV (xs.map V.int) none (some (-1)) = (xs.take (xs.length - 1)).map V.int := by
  have h1 : xs = xs.take (xs.length - 1) ++ [xs[xs.length - 1]] := by
    have h1 := List.take_append_drop (xs.length - 1) xs
    rw [List.drop_eq_getElem_cons (by omega), List.drop_of_length_le (by omega)] at h1
    exact h1.symm
  have h2 : xs.map V.int = (xs.take (xs.length - 1)).map V.int ++ [V.int xs[xs.length - 1]] := by
    conv => lhs; rw [h1]
    rw [List.map_append]
    rfl
  rw [h2, cut_last]
theorem PriceL.drop {ps : List Int} (h : PriceL ps) {n : Nat} (hn : n < ps.length) : PriceL (ps.drop n) :=
  ⟨by rw [List.length_drop]; omega, by rw [List.length_drop]; have := h.l2; omega, fun x hx => h.b x (List.mem_of_mem_drop hx)⟩
theorem PriceL.take0 {ps : List Int} (h : PriceL ps) {n : Nat} (hn : n < ps.length) : PriceL (ps.take n ++ [0]) :=
  ⟨by simp, by rw [List.length_append, List.length_take]; have := h.l2; simp; omega, fun x hx => by
    rcases List.mem_append.mp hx with k | k
    · exact h.b x (List.mem_of_mem_take k)
    · rw [List.mem_singleton.mp k]; exact ⟨by decide, by decide⟩⟩
theorem Log.take {ns : List Int} (h : Log ns) {n : Nat} (h1 : 1 ≤ n) (h2 : n ≤ ns.length) : Log (ns.take n) := by
  have el : (ns.take n).length = n := by rw [List.length_take]; omega
  refine ⟨form_atI (by omega) (by have := h.form.2.1; omega) fun i h0 hi => ?_, nc_iff.mpr fun x y g1 g2 g3 => ?_⟩
  · rw [at0_take h0 (by omega)]
    exact h.form.at h0 (by omega)
  · rw [at0_take (by omega) (by omega), at0_take (by omega) (by omega)]
    exact nc_iff.mp h.nc x y g1 g2 (by omega)
end VB

namespace VB
open PySem PySem.Spec PyProof.Rows L2
/-! ### numbers as texts -/
def numS (n : Int) : Str := Str.ofString (toString n)
theorem numS_tl {n : Int} (h : 0 ≤ n) : TL.tl (numS n) = TL.numL n.toNat := by
  have e : n = ((n.toNat : Nat) : Int) := by omega
  unfold numS
  rw [e]
  exact TL.tl_num _
theorem numS_len {n : Int} (h : 0 ≤ n) (h1 : n < 1000) : (numS n).length ≤ 3 := by
  rw [TL.len_tl, numS_tl h]
  exact TL.numL_len (by decide) (by omega)
theorem digit_ok : ∀ c : Nat, 48 ≤ c ∧ c ≤ 57 → Unicode.isDigit c = true := by
  intro c h
  have : c = 48 ∨ c = 49 ∨ c = 50 ∨ c = 51 ∨ c = 52 ∨ c = 53 ∨ c = 54 ∨ c = 55 ∨ c = 56 ∨ c = 57 := by omega
  rcases this with rfl | rfl | rfl | rfl | rfl | rfl | rfl | rfl | rfl | rfl <;> decide +kernel
theorem numS_pos {n : Int} (h : 0 ≤ n) : 1 ≤ (numS n).length := by
  rw [TL.len_tl, numS_tl h]
  exact List.length_pos_iff.mpr (TL.numL_ne _)
theorem numS_cps {n : Int} (h : 0 ≤ n) {p : Nat → Bool} (hp : ∀ c : Nat, 48 ≤ c ∧ c ≤ 57 → p c = true) : (numS n).cps.all p = true := by
  have e : (numS n).cps.toList = TL.numL n.toNat := numS_tl h
  rw [← Array.all_toList, e, List.all_eq_true]
  intro c hc
  exact hp c (TL.numL_digits _ c hc)
theorem numS_ascii {n : Int} (h : 0 ≤ n) : Txt.isascii (numS n) = true := numS_cps h fun c hc => decide_eq_true (by omega)
theorem numS_digit {n : Int} (h : 0 ≤ n) : Txt.isdigit (numS n) = true := by
  have h1 := numS_pos h
  unfold Txt.isdigit
  rw [Bool.and_eq_true]
  exact ⟨decide_eq_true (by omega), numS_cps h digit_ok⟩
theorem numS_int {n : Int} (h : 0 ≤ n) (h1 : n < 1000) : intText? (numS n) = some n := by
  have e : n = ((n.toNat : Nat) : Int) := by omega
  have hl := TL.numL_len (n := n.toNat) (k := 3) (by decide) (by omega)
  unfold numS
  rw [e]
  exact TL.int_num (by omega)
theorem numS_free {n : Int} (h : 0 ≤ n) {s : Nat} (hs : s < 48 ∨ 57 < s) : s ∉ TL.tl (numS n) := by
  rw [numS_tl h]
  exact TL.numL_free hs
/-- numbers with a sign between -/
def joinS (y : Str) (ns : List Int) : Str := Txt.join y (ns.map numS)
theorem split_nums {y : Str} {s : Nat} (ey : TL.tl y = [s]) (hk : y.cps.all (· < 256) = true) (hs : s < 48 ∨ 57 < s) {ns : List Int} (hne : ns ≠ []) (h : ∀ n ∈ ns, 0 ≤ n) : Txt.split (joinS y ns) y = ns.map numS := by
  refine TL.split_join (S := []) ey hk (fun e => hne (List.map_eq_nil_iff.mp e)) fun p hp => ?_
  obtain ⟨n, hn, rfl⟩ := List.mem_map.mp hp
  exact numS_free (h n hn) hs
theorem joinL_len (S : List Nat) : ∀ ps : List (List Nat), (TL.joinL S ps).length ≤ (ps.map (·.length)).sum + ps.length * S.length
  | [] => Nat.zero_le _
  | [p] => by
    show p.length ≤ (p.length + 0) + 1 * S.length
    omega
  | p :: q :: r => by
    have ih := joinL_len S (q :: r)
    show (p ++ (S ++ TL.joinL S (q :: r))).length ≤ _
    rw [List.length_append, List.length_append, List.map_cons, List.sum_cons, List.length_cons, Nat.add_mul]
    omega
theorem lens_sum : ∀ ns : List Int, (∀ n ∈ ns, 0 ≤ n ∧ n < 1000) → ((ns.map numS).map (·.length)).sum ≤ 3 * ns.length
  | [], _ => by simp
  | n :: ns, h => by
    have h1 := h n (List.mem_cons_self ..)
    have h2 := numS_len h1.1 h1.2
    have ih := lens_sum ns fun x hx => h x (List.mem_cons_of_mem _ hx)
    rw [List.map_cons, List.map_cons, List.sum_cons, List.length_cons]
    omega
theorem joinS_len {y : Str} (hy : y.length = 1) {ns : List Int} (h : ∀ n ∈ ns, 0 ≤ n ∧ n < 1000) : (joinS y ns).length ≤ 4 * ns.length := by
  have h1 := joinL_len (TL.tl y) ((ns.map numS).map TL.tl)
  have h2 := lens_sum ns h
  unfold joinS
  rw [TL.join_eq, TL.len_tl, TL.tl_join]
  have e1 : ((ns.map numS).map TL.tl).map (·.length) = (ns.map numS).map (·.length) := by
    rw [List.map_map]
    exact List.map_congr_left fun x _ => (TL.len_tl x).symm
  rw [e1, List.length_map, List.length_map] at h1
  rw [TL.len_tl] at hy
  rw [hy] at h1
  omega
theorem joinS_ne {y : Str} {ns : List Int} (hne : ns ≠ []) (h : ∀ n ∈ ns, 0 ≤ n) : joinS y ns ≠ Str.ofString "-" := by
  intro e
  have e2 := congrArg TL.tl e
  unfold joinS at e2
  rw [TL.join_eq, TL.tl_join, TL.tl_ofString] at e2
  cases ns with
  | nil => exact hne rfl
  | cons n ns =>
    have h0 := h n (List.mem_cons_self ..)
    obtain ⟨c, r, hc⟩ : ∃ c r, TL.tl (numS n) = c :: r := by
      cases k : TL.tl (numS n) with
      | nil => rw [numS_tl h0] at k; exact (TL.numL_ne _ k).elim
      | cons c r => exact ⟨c, r, rfl⟩
    have hd : 48 ≤ c := by
      have : c ∈ TL.numL n.toNat := by rw [← numS_tl h0, hc]; exact List.mem_cons_self ..
      exact (TL.numL_digits _ c this).1
    have : ∃ r2, TL.joinL (TL.tl y) (((n :: ns).map numS).map TL.tl) = c :: r2 := by
      cases ns with
      | nil => exact ⟨r, by show TL.tl (numS n) = _; exact hc⟩
      | cons m ms => exact ⟨r ++ (TL.tl y ++ TL.joinL (TL.tl y) (((m :: ms).map numS).map TL.tl)), by show TL.tl (numS n) ++ _ = _; rw [hc]; rfl⟩
    obtain ⟨r2, e3⟩ := this
    rw [e3] at e2
    have e4 := (List.cons.inj e2).1
    have e5 : c = 45 := e4
    omega
section
variable {K : PySem.W.Frag} {H : Hp} {Q : VK} {σ : L2.St} {to te : TE} {r : V → List V → Hp → VK → Prop}
theorem w_m0 (q : to σ H fun x H1 => (∃ a, x = .str a) ∧ r x [] H1 Q) : tM0 r to σ H Q := q
theorem w_m1 (q : to σ H fun x H1 => (∃ a, x = .str a) ∧ te σ H1 fun y H2 => r x [y] H2 Q) : tM1 r to te σ H Q := q
theorem w_isStr {x : Str} (q : Q (.bl true) H) : rIsi K [.str x, .ty "str"] H Q := w_isi (.str x) (b := true) (by decide +kernel) q
theorem w_revM {M : List Addr} {H0 : Hp} {W : List (Addr × HO)} {p : Addr} {xs : List V} (S : Tr M H0 H W) (m : Nat) (h : W[m]? = some (p, .lst xs)) (q : ∀ G, Tr M H0 G (W.set m (p, .lst xs.reverse)) → Q .non G) : rReverse (.ref p) [] H Q :=
  ⟨p, xs, rfl, rfl, S.get m h, q _ (S.putN m h)⟩
end
/-! ### chains -/
theorem Ch.tail {ns cs : List Int} {x y : Int} (h : Ch ns (x :: y :: cs)) : Ch ns (y :: cs) :=
  ⟨by simp, fun c hc => h.rg c (List.mem_cons_of_mem _ hc), fun i a b h1 h2 => h.st (i + 1) a b h1 h2⟩
theorem Ch.desc {ns : List Int} (hF : Form ns) : ∀ {cs : List Int}, Ch ns cs → cs.Pairwise (· > ·)
  | [], _ => List.Pairwise.nil
  | [x], _ => List.pairwise_singleton _ _
  | x :: y :: cs, h => by
    have ih := Ch.desc hF h.tail
    obtain ⟨h1, h2⟩ := h.st 0 x y rfl rfl
    have hx := h.rg x (List.mem_cons_self ..)
    have hb := at0_lt hF (i := x) (by omega) hx.2
    have hxy : x > y := by omega
    refine List.pairwise_cons.mpr ⟨fun z hz => ?_, ih⟩
    rcases List.mem_cons.mp hz with rfl | hz
    · exact hxy
    · have := (List.pairwise_cons.mp ih).1 z hz
      omega
theorem Ch.one {ns : List Int} {x : Int} (h0 : 0 ≤ x) (h1 : x < ns.length) : Ch ns [x] :=
  ⟨by simp, fun c hc => by rw [List.mem_singleton.mp hc]; exact ⟨h0, h1⟩, fun i a b _ h2 => by simp at h2⟩
theorem Ch.snoc {ns pre : List Int} {x y : Int} (h : Ch ns (pre ++ [x])) (hx : x ≠ 0) (hy : y = x - 1 ∨ y = at0 ns x) (h0 : 0 ≤ y) (h1 : y < ns.length) : Ch ns (pre ++ [x] ++ [y]) := by
  refine ⟨by simp, fun c hc => ?_, fun i a b g1 g2 => ?_⟩
  · rcases List.mem_append.mp hc with k | k
    · exact h.rg c k
    · rw [List.mem_singleton.mp k]; exact ⟨h0, h1⟩
  · have hl : (pre ++ [x]).length = pre.length + 1 := by simp
    by_cases q : i + 1 < (pre ++ [x]).length
    · rw [List.getElem?_append_left (by omega)] at g1
      rw [List.getElem?_append_left q] at g2
      exact h.st i a b g1 g2
    · have hi2 := (List.getElem?_eq_some_iff.mp g2).1
      rw [List.length_append, List.length_singleton] at hi2
      have ei : i = pre.length := by omega
      subst ei
      rw [List.getElem?_append_left (by omega), List.getElem?_append_right (Nat.le_refl _), Nat.sub_self] at g1
      rw [List.getElem?_append_right (by omega), show pre.length + 1 - (pre ++ [x]).length = 0 by omega] at g2
      cases g1
      cases g2
      exact ⟨hx, hy⟩
theorem filter_all {l : List Int} {p : Int → Bool} (h : ∀ x ∈ l, p x = true) : l.filter p = l := List.filter_eq_self.mpr h
/-- what is left of a chain without the newest entry -/
theorem Ch.cut {ns cs : List Int} {n : Nat} (hF : Form ns) (h : Ch ns cs) (hn : ns.length = n + 1) (hc : cs.filter (fun e => decide (e < (n : Int))) ≠ []) : Ch (ns.take n) (cs.filter fun e => decide (e < (n : Int))) := by
  have el : (ns.take n).length = n := by rw [List.length_take]; omega
  have low : ∀ {ds : List Int}, Ch ns ds → (∀ x ∈ ds, x < (n : Int)) → Ch (ns.take n) ds := fun {ds} g hx => by
    refine ⟨g.ne, fun c hc => ⟨(g.rg c hc).1, by have := hx c hc; omega⟩, fun i a b h1 h2 => ?_⟩
    have ha := hx a (List.mem_of_getElem? h1)
    rw [at0_take (g.rg a (List.mem_of_getElem? h1)).1 (by omega)]
    exact g.st i a b h1 h2
  cases cs with
  | nil => exact (hc rfl).elim
  | cons x r =>
    have hx := h.rg x (List.mem_cons_self ..)
    have hd := (List.pairwise_cons.mp (h.desc hF)).1
    have hr : ∀ y ∈ r, y < (n : Int) := fun y hy => by have := hd y hy; omega
    have er : r.filter (fun e => decide (e < (n : Int))) = r := filter_all fun y hy => decide_eq_true (hr y hy)
    by_cases q : x < (n : Int)
    · rw [List.filter_cons, if_pos (decide_eq_true q), er]
      exact low h fun y hy => by
        rcases List.mem_cons.mp hy with rfl | hy
        · exact q
        · exact hr y hy
    · rw [List.filter_cons, if_neg (by rw [decide_eq_false q]; decide), er] at hc ⊢
      cases r with
      | nil => exact (hc rfl).elim
      | cons y r => exact low h.tail hr
theorem Ch.len {ns cs : List Int} (hF : Form ns) (h : Ch ns cs) : cs.length ≤ ns.length := by
  have key : ∀ (xs : List Int) (hi : Int), xs.Pairwise (· > ·) → (∀ t ∈ xs, 0 ≤ t ∧ t < hi) → 0 ≤ hi → (xs.length : Int) ≤ hi := by
    intro xs
    induction xs with
    | nil => intro hi _ _ h; simpa using h
    | cons x xs ih =>
      intro hi g1 g2 _
      obtain ⟨g3, g4⟩ := List.pairwise_cons.mp g1
      have gx := g2 x (List.mem_cons_self ..)
      have := ih x g4 (fun t h => ⟨(g2 t (List.mem_cons_of_mem _ h)).1, g3 t h⟩) (by omega)
      simp only [List.length_cons]
      omega
  have := key cs ns.length (h.desc hF) (fun t ht => h.rg t ht) (by omega)
  omega
theorem Ch.v {ns cs : List Int} {H : Hp} {b : Addr} (h : Ch ns cs) (hb : H b = some (.lst (cs.map V.int))) : ChainV H ns (.ref b) := ⟨b, cs, rfl, hb, h⟩
theorem joinL_mem (S : List Nat) : ∀ {ps : List (List Nat)} {c : Nat}, c ∈ TL.joinL S ps → c ∈ S ∨ ∃ p ∈ ps, c ∈ p
  | [], c, h => by simp [TL.joinL] at h
  | [p], c, h => .inr ⟨p, List.mem_singleton.mpr rfl, h⟩
  | p :: q :: r, c, h => by
    rcases List.mem_append.mp (show c ∈ p ++ (S ++ TL.joinL S (q :: r)) from h) with k | k
    · exact .inr ⟨p, List.mem_cons_self .., k⟩
    · rcases List.mem_append.mp k with k | k
      · exact .inl k
      · rcases joinL_mem S k with k | ⟨z, hz, k⟩
        · exact .inl k
        · exact .inr ⟨z, List.mem_cons_of_mem _ hz, k⟩
theorem joinS_ok {y : Str} (hy : PyData.strOk y = true) {ns : List Int} (h : ∀ n ∈ ns, 0 ≤ n) : PyData.strOk (joinS y ns) = true := by
  have hy2 : ∀ c ∈ TL.tl y, c < 1114112 := by
    have : y.cps.toList.all (fun x => decide (x < 1114112)) = true := by rw [Array.all_toList]; exact hy
    intro c hc
    exact of_decide_eq_true (List.all_eq_true.mp this c hc)
  show (joinS y ns).cps.all (fun x => decide (x < 1114112)) = true
  have e : (joinS y ns).cps.toList = TL.joinL (TL.tl y) ((ns.map numS).map TL.tl) := by
    unfold joinS
    rw [TL.join_eq]
    exact TL.tl_join _ _
  rw [← Array.all_toList, e, List.all_eq_true]
  intro c hc
  rcases joinL_mem _ hc with k | ⟨p, hp, k⟩
  · exact decide_eq_true (hy2 c k)
  · obtain ⟨s, hs, rfl⟩ := List.mem_map.mp hp
    obtain ⟨n, hn, rfl⟩ := List.mem_map.mp hs
    rw [numS_tl (h n hn)] at k
    have := TL.numL_digits _ c k
    exact decide_eq_true (by omega)
/-- the text of a log -/
def logS (ns : List Int) : Str := if 1 < ns.length then joinS " " (ns.drop 1) else "-"
theorem logS_ok {ns : List Int} (hF : Form ns) : PyData.strOk (logS ns) = true := by
  unfold logS
  split
  · exact joinS_ok (by decide +kernel) fun n hn => by
      obtain ⟨i, hi, e⟩ := List.mem_iff_getElem.mp (List.mem_of_mem_drop hn)
      have := hF.nat hi
      omega
  · decide +kernel
theorem w_neS2 {K : PySem.W.Frag} {H : Hp} {Q : VK} {a b : Addr} {s t : Str} (h1 : SqL K H a [.str s, .str t]) (h2 : SqL K H b [.str s, .str t]) (hs : PyData.strOk s = true) (ht : PyData.strOk t = true) (q : Q (.bl false) H) : rNeD K (.ref a) (.ref b) H Q := by
  have sh : SeqAt.shaped (.list [.str s, .str t]) = true := shown_shaped (by simp [PyData.canLay0, PyData.canLayAll0, hs, ht]) (by simp [PyData.depth, PyData.depthAll])
  refine ⟨.list [.str s, .str t], .list [.str s, .str t], .lst h1 (.cons (.str s) (.cons (.str t) .nil)), .lst h2 (.cons (.str s) (.cons (.str t) .nil)), sh, sh, ?_⟩
  rw [SeqAt.eqv_refl _ (SeqAt.canLay_of_shaped sh)]
  exact q
theorem log_head0 {ns : List Int} (h : Log ns) : ns = 0 :: ns.drop 1 := by
  obtain ⟨h1, _, h3⟩ := h.form
  cases ns with
  | nil => simp at h1
  | cons n ns =>
    have := h3 0 (by simp)
    simp at this
    have e : n = 0 := by omega
    rw [e]
    rfl
end VB

namespace V_k66
open PySem PySem.Spec PyProof.Rows L2 VB
def topS (i : Nat) : Stmt := PySem.Challenge.pw_backlinks_k66_logs_and_chains_written.main.body.getD i (.Pass ⟨0, 0, 0, 0⟩)
abbrev st_law_reel : Stmt := topS 26
abbrev N_law_reel : List Str := ["script", "k", "cell"]
theorem sc_law_reel : FnScope N_law_reel ["script", "k"] (defScope st_law_reel) := ⟨rfl, rfl, rfl, by decide +kernel, rfl, by decide +kernel, by decide +kernel⟩
abbrev st_law_turn : Stmt := topS 27
abbrev N_law_turn : List Str := ["reel", "size", "found", "mixed"]
theorem sc_law_turn : FnScope N_law_turn ["reel", "size"] (defScope st_law_turn) := ⟨rfl, rfl, rfl, by decide +kernel, rfl, by decide +kernel, by decide +kernel⟩
abbrev st_law_grown : Stmt := topS 28
abbrev N_law_grown : List Str := ["reel", "size", "style", "found", "some", "entry", "many", "low", "high", "rare", "at"]
theorem sc_law_grown : FnScope N_law_grown ["reel", "size"] (defScope st_law_grown) := ⟨rfl, rfl, rfl, by decide +kernel, rfl, by decide +kernel, by decide +kernel⟩
abbrev st_law_chain : Stmt := topS 34
abbrev N_law_chain : List Str := ["reel", "links", "most", "found", "style", "turn", "here"]
theorem sc_law_chain : FnScope N_law_chain ["reel", "links", "most"] (defScope st_law_chain) := ⟨rfl, rfl, rfl, by decide +kernel, rfl, by decide +kernel, by decide +kernel⟩
abbrev st_law_log_text : Stmt := topS 29
abbrev N_law_log_text : List Str := ["links", "link"]
theorem sc_law_log_text : FnScope N_law_log_text ["links"] (defScope st_law_log_text) := ⟨rfl, rfl, rfl, by decide +kernel, rfl, by decide +kernel, by decide +kernel⟩
abbrev stare_integers : Stmt := topS 6
abbrev Nare_integers : List Str := ["values", "others", "value"]
theorem scare_integers : FnScope Nare_integers ["values"] (defScope stare_integers) := ⟨rfl, rfl, rfl, by decide +kernel, rfl, by decide +kernel, by decide +kernel⟩
abbrev st_are_links : Stmt := topS 11
abbrev N_are_links : List Str := ["value"]
theorem sc_are_links : FnScope N_are_links ["value"] (defScope st_are_links) := ⟨rfl, rfl, rfl, by decide +kernel, rfl, by decide +kernel, by decide +kernel⟩
abbrev st_cross_nowhere : Stmt := topS 12
abbrev N_cross_nowhere : List Str := ["links", "target", "link"]
theorem sc_cross_nowhere : FnScope N_cross_nowhere ["links"] (defScope st_cross_nowhere) := ⟨rfl, rfl, rfl, by decide +kernel, rfl, by decide +kernel, by decide +kernel⟩
abbrev stis_log : Stmt := topS 9
abbrev Nis_log : List Str := ["value"]
theorem scis_log : FnScope Nis_log ["value"] (defScope stis_log) := ⟨rfl, rfl, rfl, by decide +kernel, rfl, by decide +kernel, by decide +kernel⟩
abbrev strequire_log : Stmt := topS 10
abbrev Nrequire_log : List Str := ["value"]
theorem screquire_log : FnScope Nrequire_log ["value"] (defScope strequire_log) := ⟨rfl, rfl, rfl, by decide +kernel, rfl, by decide +kernel, by decide +kernel⟩
abbrev stleads_down : Stmt := topS 14
abbrev Nleads_down : List Str := ["links", "value", "entry", "below"]
theorem scleads_down : FnScope Nleads_down ["links", "value"] (defScope stleads_down) := ⟨rfl, rfl, rfl, by decide +kernel, rfl, by decide +kernel, by decide +kernel⟩
abbrev st_joined : Stmt := topS 23
abbrev N_joined : List Str := ["sign", "numbers", "number"]
theorem sc_joined : FnScope N_joined ["sign", "numbers"] (defScope st_joined) := ⟨rfl, rfl, rfl, by decide +kernel, rfl, by decide +kernel, by decide +kernel⟩
abbrev stshow_chain : Stmt := topS 20
abbrev Nshow_chain : List Str := ["links", "chain"]
theorem scshow_chain : FnScope Nshow_chain ["links", "chain"] (defScope stshow_chain) := ⟨rfl, rfl, rfl, by decide +kernel, rfl, by decide +kernel, by decide +kernel⟩
abbrev stshow_log : Stmt := topS 18
abbrev Nshow_log : List Str := ["links"]
theorem scshow_log : FnScope Nshow_log ["links"] (defScope stshow_log) := ⟨rfl, rfl, rfl, by decide +kernel, rfl, by decide +kernel, by decide +kernel⟩
abbrev stnumber_in : Stmt := topS 22
abbrev Nnumber_in : List Str := ["word", "digits", "number"]
theorem scnumber_in : FnScope Nnumber_in ["word", "digits"] (defScope stnumber_in) := ⟨rfl, rfl, rfl, by decide +kernel, rfl, by decide +kernel, by decide +kernel⟩
abbrev st_numbers_in : Stmt := topS 24
abbrev N_numbers_in : List Str := ["text", "sign", "word"]
theorem sc_numbers_in : FnScope N_numbers_in ["text", "sign"] (defScope st_numbers_in) := ⟨rfl, rfl, rfl, by decide +kernel, rfl, by decide +kernel, by decide +kernel⟩
abbrev stread_chain : Stmt := topS 21
abbrev Nread_chain : List Str := ["links", "text", "chain"]
theorem scread_chain : FnScope Nread_chain ["links", "text"] (defScope stread_chain) := ⟨rfl, rfl, rfl, by decide +kernel, rfl, by decide +kernel, by decide +kernel⟩
abbrev stread_log : Stmt := topS 19
abbrev Nread_log : List Str := ["text", "links"]
theorem scread_log : FnScope Nread_log ["text"] (defScope stread_log) := ⟨rfl, rfl, rfl, by decide +kernel, rfl, by decide +kernel, by decide +kernel⟩
abbrev st_law_right : Stmt := topS 36
abbrev N_law_right : List Str := ["links", "chain", "kept", "texts", "again", "told", "entry"]
theorem sc_law_right : FnScope N_law_right ["links", "chain"] (defScope st_law_right) := ⟨rfl, rfl, rfl, by decide +kernel, rfl, by decide +kernel, by decide +kernel⟩
abbrev stlaw : Stmt := topS 37
abbrev Nlaw : List Str := ["script", "k", "reel", "turn", "size", "links", "chain", "entry"]
theorem sclaw : FnScope Nlaw ["script"] (defScope stlaw) := ⟨rfl, rfl, rfl, by decide +kernel, rfl, by decide +kernel, by decide +kernel⟩
/-- what the top leaves -/
structure Txt (K : PySem.W.Frag) (mg : Str → Option Value) : Prop where
  d__law_reel : DefAt K mg "_law_reel" st_law_reel ["script", "k"]
  d__law_turn : DefAt K mg "_law_turn" st_law_turn ["reel", "size"]
  d__law_grown : DefAt K mg "_law_grown" st_law_grown ["reel", "size"]
  d__law_chain : DefAt K mg "_law_chain" st_law_chain ["reel", "links", "most"]
  d__law_log_text : DefAt K mg "_law_log_text" st_law_log_text ["links"]
  d_are_integers : DefAt K mg "are_integers" stare_integers ["values"]
  d__are_links : DefAt K mg "_are_links" st_are_links ["value"]
  d__cross_nowhere : DefAt K mg "_cross_nowhere" st_cross_nowhere ["links"]
  d_is_log : DefAt K mg "is_log" stis_log ["value"]
  d_require_log : DefAt K mg "require_log" strequire_log ["value"]
  d_leads_down : DefAt K mg "leads_down" stleads_down ["links", "value"]
  d__joined : DefAt K mg "_joined" st_joined ["sign", "numbers"]
  d_show_chain : DefAt K mg "show_chain" stshow_chain ["links", "chain"]
  d_show_log : DefAt K mg "show_log" stshow_log ["links"]
  d_number_in : DefAt K mg "number_in" stnumber_in ["word", "digits"]
  d__numbers_in : DefAt K mg "_numbers_in" st_numbers_in ["text", "sign"]
  d_read_chain : DefAt K mg "read_chain" stread_chain ["links", "text"]
  d_read_log : DefAt K mg "read_log" stread_log ["text"]
  d__law_right : DefAt K mg "_law_right" st_law_right ["links", "chain"]
  d_law : DefAt K mg "law" stlaw ["script"]
  b_bool : mg "bool" = none
  b_enumerate : mg "enumerate" = none
  b_int : mg "int" = none
  b_isinstance : mg "isinstance" = none
  b_len : mg "len" = none
  b_list : mg "list" = none
  b_max : mg "max" = none
  b_min : mg "min" = none
  b_range : mg "range" = none
  b_repr : mg "repr" = none
  b_str : mg "str" = none
  b_sum : mg "sum" = none
  b_zip : mg "zip" = none
  c_MOST_ENTRIES : ∃ t, mg "MOST_ENTRIES" = some (.int 150 t)
  c_NO_LINKS : ∃ t, mg "NO_LINKS" = some (.str "-" t)
  c_ENTRY_DIGITS : ∃ t, mg "ENTRY_DIGITS" = some (.int 3 t)
def sp_law_reel (K : PySem.W.Frag) : Sp := sp2 fun x y H Q => ∃ (a : Addr) (ns : List Int) (k : Int), x = .ref a ∧ y = .int k ∧ 0 ≤ k ∧ k ≤ 1000 ∧ SqL K H a (ns.map V.int) ∧
  ∀ v o H', ReelO 0 o → Tr [] H H' [(v, o)] → Q (.ref v) H'
def sp_law_turn (K : PySem.W.Frag) : Sp := sp2 fun x y H Q => ∃ (v : Addr) (o : HO) (n : Nat) (m : Int), x = .ref v ∧ y = .int m ∧ 1 ≤ m ∧ m.natAbs < 2 ^ 400 ∧ H v = some o ∧ ReelO n o ∧ n < 1000000000 ∧
  ∀ i o' H', 0 ≤ i → i < m → ReelO (n + 1) o' → Tr [v] H H' [(v, o')] → Q (.int i) H'
def sp_law_grown (K : PySem.W.Frag) : Sp := sp2 fun x y H Q => ∃ (v : Addr) (o : HO) (n : Nat) (m : Int), x = .ref v ∧ y = .int m ∧ 1 ≤ m ∧ m ≤ 150 ∧ H v = some o ∧ ReelO n o ∧ n < 900000000 ∧
  ∀ p ns o' H', Log ns → (ns.length : Int) = m → ReelO (n + 2000) o' → Tr [v] H H' [(v, o'), (p, .lst (ns.map V.int))] → Q (.ref p) H'
def sp_law_chain (K : PySem.W.Frag) : Sp := sp3 fun x y z H Q => ∃ (v a : Addr) (o : HO) (ns : List Int) (n : Nat) (m : Int), x = .ref v ∧ y = .ref a ∧ z = .int m ∧ 1 ≤ m ∧ m ≤ 200 ∧ H v = some o ∧ ReelO n o ∧ n < 900000000 ∧ a ≠ v ∧ H a = some (.lst (ns.map V.int)) ∧ Log ns ∧
  ∀ p cs o' H', Ch ns cs → ReelO (n + 500) o' → Tr [v] H H' [(v, o'), (p, .lst (cs.map V.int))] → Q (.ref p) H'
def sp_law_log_text (K : PySem.W.Frag) : Sp := sp1 fun x H Q => ∃ (a : Addr) (ns : List Int), x = .ref a ∧ H a = some (.lst (ns.map V.int)) ∧ Log ns ∧ ∀ H', Tr [] H H' [] → Q (.str (logS ns)) H'
def spare_integers (K : PySem.W.Frag) : Sp := sp1 fun x H Q => ∃ (a : Addr) (xs : List V), x = .ref a ∧ H a = some (.lst xs) ∧ xs.length ≤ 1000 ∧ (∀ y ∈ xs, ∃ n, Ty H y n) ∧ ∀ H', Tr [] H H' [] → Q (.bl (xs.all isIntV)) H'
def sp_are_links (K : PySem.W.Frag) : Sp := sp1 fun x H Q => (∃ n, Ty H x n) ∧ (∀ a xs, x = .ref a → H a = some (.lst xs) → ∀ y ∈ xs, ∃ n, Ty H y n) ∧ ∀ H', Tr [] H H' [] → Q (.bl (linksV H x)) H'
def sp_cross_nowhere (K : PySem.W.Frag) : Sp := sp1 fun x H Q => ∃ (a : Addr) (ns : List Int), x = .ref a ∧ H a = some (.lst (ns.map V.int)) ∧ 1 ≤ ns.length ∧ ns.length ≤ 150 ∧ ns.head? = some 0 ∧ (∀ n ∈ ns, 0 ≤ n) ∧
  (Log ns → ∀ H', Tr [] H H' [] → Q (.bl true) H') ∧ (¬ Log ns → ∀ H', Tr [] H H' [] → Q (.bl false) H')
def spis_log (K : PySem.W.Frag) : Sp := sp1 fun x H Q => (∃ n, Ty H x n) ∧ (∀ a xs, x = .ref a → H a = some (.lst xs) → ∀ y ∈ xs, ∃ n, Ty H y n) ∧
  (LogV H x → ∀ H', Tr [] H H' [] → Q (.bl true) H') ∧ (¬ LogV H x → ∀ H', Tr [] H H' [] → Q (.bl false) H')
theorem is_log_ints {K : PySem.W.Frag} {H : Hp} {Q : VK} {E : XK} {a : Addr} {ns : List Int} (ha : H a = some (.lst (ns.map V.int))) (q1 : Log ns → ∀ H', Tr [] H H' [] → Q (.bl true) H') (q2 : ¬ Log ns → ∀ H', Tr [] H H' [] → Q (.bl false) H') : spis_log K [.ref a] H Q E :=
  ⟨_, rfl, (ty_ints ha).1, (ty_ints ha).2, fun h => q1 ((logV_ints ha).mp h), fun h => q2 fun z => h ((logV_ints ha).mpr z)⟩
def sprequire_log (K : PySem.W.Frag) : Sp := sp1 fun x H Q => LogV H x ∧ ∀ H', Tr [] H H' [] → Q .non H'
def spleads_down (K : PySem.W.Frag) : Sp := sp2 fun x y H Q => ∃ (a : Addr) (ns : List Int), x = .ref a ∧ H a = some (.lst (ns.map V.int)) ∧ Form ns ∧ (∃ n, Ty H y n) ∧ (∀ a xs, y = .ref a → H a = some (.lst xs) → xs.length ≤ 1000 ∧ ∀ z ∈ xs, ∃ n, Ty H z n) ∧
  (ChainV H ns y → ∀ H', Tr [] H H' [] → Q (.bl true) H') ∧ (¬ ChainV H ns y → ∀ H', Tr [] H H' [] → Q (.bl false) H')
theorem leads_down_nc {K : PySem.W.Frag} {H : Hp} {Q : VK} {E : XK} {a b : Addr} {ns cs : List Int} {e s n : Int} (ha : H a = some (.lst (ns.map V.int))) (hb : H b = some (.lst (cs.map V.int))) (hF : Form ns) (he : 0 ≤ e) (hs : s < ns.length) (hc : NC ns e s n cs)
    (q : ∀ H', Tr [] H H' [] → Q (.bl true) H') : spleads_down K [.ref a, .ref b] H Q E := by
  have hl := hc.len hF he hs
  have hz := hF.2.1
  exact ⟨_, _, rfl, a, ns, rfl, ha, hF, (ty_ints hb).1, ty_ints_len hb (by omega), fun _ => q, fun hn => (hn ⟨b, cs, rfl, hb, hc.ch hF he hs⟩).elim⟩
def sp_joined (K : PySem.W.Frag) : Sp := sp2 fun x y H Q => ∃ (s : Str) (a : Addr) (ns : List Int), x = .str s ∧ y = .ref a ∧ s.length = 1 ∧ H a = some (.lst (ns.map V.int)) ∧ ns.length ≤ 200 ∧ (∀ n ∈ ns, 0 ≤ n ∧ n < 1000) ∧ ∀ H', Tr [] H H' [] → Q (.str (joinS s ns)) H'
def spshow_chain (K : PySem.W.Frag) : Sp := sp2 fun x y H Q => ∃ (a b : Addr) (ns cs : List Int), x = .ref a ∧ y = .ref b ∧ H a = some (.lst (ns.map V.int)) ∧ H b = some (.lst (cs.map V.int)) ∧ Log ns ∧ Ch ns cs ∧ ∀ H', Tr [] H H' [] → Q (.str (joinS ">" cs)) H'
def spshow_log (K : PySem.W.Frag) : Sp := sp1 fun x H Q => ∃ (a : Addr) (ns : List Int), x = .ref a ∧ H a = some (.lst (ns.map V.int)) ∧ Log ns ∧ ∀ H', Tr [] H H' [] → Q (.str (logS ns)) H'
def spnumber_in (K : PySem.W.Frag) : Sp := sp2 fun x y H Q => ∃ n : Int, x = .str (numS n) ∧ y = .int 3 ∧ 0 ≤ n ∧ n < 1000 ∧ ∀ H', Tr [] H H' [] → Q (.int n) H'
def sp_numbers_in (K : PySem.W.Frag) : Sp := sp2 fun x y H Q => ∃ (s : Str) (c : Nat) (ns : List Int), x = .str (joinS s ns) ∧ y = .str s ∧ TL.tl s = [c] ∧ s.cps.all (· < 256) = true ∧ (c < 48 ∨ 57 < c) ∧ ns ≠ [] ∧ ns.length ≤ 200 ∧ (∀ n ∈ ns, 0 ≤ n ∧ n < 1000) ∧ ∀ p H', Tr [] H H' [(p, .lst (ns.map V.int))] → Q (.ref p) H'
def spread_chain (K : PySem.W.Frag) : Sp := sp2 fun x y H Q => ∃ (a : Addr) (ns cs : List Int), x = .ref a ∧ y = .str (joinS ">" cs) ∧ H a = some (.lst (ns.map V.int)) ∧ Log ns ∧ Ch ns cs ∧ ∀ p H', Tr [] H H' [(p, .lst (cs.map V.int))] → Q (.ref p) H'
def spread_log (K : PySem.W.Frag) : Sp := sp1 fun x H Q => ∃ ns : List Int, x = .str (logS ns) ∧ Log ns ∧ ∀ p H', Tr [] H H' [(p, .lst (ns.map V.int))] → Q (.ref p) H'
def sp_law_right (K : PySem.W.Frag) : Sp := sp2 fun x y H Q => ∃ (a b : Addr) (ns cs : List Int), x = .ref a ∧ y = .ref b ∧ H a = some (.lst (ns.map V.int)) ∧ H b = some (.lst (cs.map V.int)) ∧ Log ns ∧ Ch ns cs ∧ ∀ H', Tr [] H H' [] → Q (.bl true) H'
def splaw (K : PySem.W.Frag) : Sp := VB.spLaw K
set_option hygiene false
local macro_rules | `(tactic| walk_at "nm") => `(tactic| first | exact List.not_mem_nil | (simp; done) | (simp; assumption))
local macro_rules | `(tactic| walk_at "at") => `(tactic| first
  | exact S.get 0 rfl | exact S.get 1 rfl | exact S.get 2 rfl | exact S.get 3 rfl | exact S.get 4 rfl | exact S.get 5 rfl | exact S.get 6 rfl | exact S.get 7 rfl
  | exact S.fr _ _ (by assumption) (by walk_at "nm"))
local macro_rules | `(tactic| walk_at "sq") => `(tactic| first
  | exact .inl (.inl (by walk_at "at")) | exact S.sq (by assumption) (by walk_at "nm"))
local macro_rules | `(tactic| walk_at "sqt") => `(tactic| exact .inl (.inl (by walk_at "at")))
local macro_rules | `(tactic| walk_at "len") => `(tactic| first | decide | (simp; done) | (simp; omega) | omega)
local macro_rules | `(tactic| walk_at "w1") => `(tactic| with_reducible first
  | refine w_var (by k_dflt exact rfl) ?_ | refine w_c ?_ | refine w_op ?_ | refine w_un ?_
  | refine w_add ?_ | refine w_sub ?_ | refine w_lt ?_ | refine w_le ?_ | refine w_gt ?_ | refine w_ge ?_ | refine w_neg ?_
  | refine w_eqI ?_ | refine w_neI ?_ | refine w_eqS ?_ | refine w_neS ?_ | refine w_eqB ?_ | refine w_neB ?_ | refine w_isB ?_ | refine w_notB ?_
  | refine w_nil ?_ | refine w_cons ?_ | refine w_cb ?_ | refine w_call ?_
  | refine w_bl ?_ | refine w_int1 ?_ | refine w_test ?_ | refine w_tB ?_ | refine w_not ?_ | refine w_and ?_ | refine w_or ?_ | refine w_chain ?_ | refine w_ifx ?_
  | refine w_andV ?_ | refine w_orV ?_ | refine w_notV ?_ | refine w_yes ?_
  | refine w_seq ?_ | refine w_asg ?_ | refine w_gname ?_ | refine w_gsub ?_ | refine w_drop ?_ | refine w_ret ?_ | refine w_retN ?_ | refine w_ifs ?_ | refine w_next ?_ | refine w_par ?_ | refine w_par3 ?_ | refine w_gcons ?_ | refine w_gnil ?_
  | (refine w_max ?_; first | rw [if_max] | rw [if_min]) | (refine w_abs ?_; rw [if_abs]) | refine w_intB ?_
  | refine w_ex2 ?_ | refine w_ex3 ?_
  | refine w_itNT ?_ | refine w_itNF ?_ | refine w_itT ?_ | refine w_itF ?_
  | refine w_lst ?_ | refine w_tup ?_ | refine w_sl ?_ | refine w_nopart ?_ | refine w_part ?_ | refine w_bm ?_ | refine w_bm0 ?_
  | refine w_for ?_ | refine w_rng1 ?_ | refine w_rng2 ?_ | refine w_ilist ?_ | refine w_ienum ?_ | refine w_ienumC ?_ | refine w_revL ?_ | refine w_lc2 ?_ | refine w_izip ?_ | refine w_lc ?_
  | (refine w_newL S (by k_dflt walk_at "len") ?_; clear S; (try clear G); intro p G S) | (refine w_newT S (by k_dflt walk_at "len") ?_; clear S; (try clear G); intro p G S)
  | (refine w_cutL S (by k_dflt walk_at "sq") ?_; clear S; (try clear G); intro p G S) | (refine w_cat S (by k_dflt walk_at "at") (by k_dflt walk_at "at") (by k_dflt walk_at "len") ?_; clear S; (try clear G); intro p G S)
  | refine w_mod (by k_dflt first | omega | decide +kernel | assumption) ?_ | refine w_fdiv (by k_dflt exact ⟨by first | decide | omega, by first | decide | omega⟩) ?_
  | refine w_mul (by k_dflt first | exact .inl ⟨by decide, by decide⟩ | exact .inr ⟨by decide, by decide⟩ | exact .inl ⟨by omega, by omega⟩ | exact .inr ⟨by omega, by omega⟩) ?_
  | refine w_pow (by k_dflt exact ⟨by decide, by decide, by decide +kernel⟩) ?_
  | refine w_ixL (by k_dflt walk_at "sq") (by k_dflt exact rfl) ?_
  | (refine w_setL S 0 (by k_dflt exact rfl) (by k_dflt exact rfl) ?_; clear S; (try clear G); intro G S) | (refine w_setL S 1 (by k_dflt exact rfl) (by k_dflt exact rfl) ?_; clear S; (try clear G); intro G S) | (refine w_setL S 2 (by k_dflt exact rfl) (by k_dflt exact rfl) ?_; clear S; (try clear G); intro G S)
  | refine w_rlen (.inl (by k_dflt walk_at "sq")) ?_
  | refine w_len (.inl (by k_dflt walk_at "sq")) ?_
  | refine w_ty (by k_dflt walk_at "sq") ?_
  | refine w_fld ?_ | refine w_sfld ?_ | refine w_meth ?_ | refine w_make ?_ | refine w_callS ?_)
local macro_rules | `(tactic| walk_at "w") => `(tactic| repeat walk_at "w1")
local macro_rules | `(tactic| walk_at "cl") => `(tactic| simp only [List.nil_append, List.cons_append, List.set_cons_zero, List.set_cons_succ] at S)
local macro_rules | `(tactic| walk_at "call1") => `(tactic| ((first | have S2 := S.call1 0 rfl C | have S2 := S.call1 1 rfl C | have S2 := S.call1 2 rfl C | have S2 := S.call1 3 rfl C | have S2 := S.call1 4 rfl C | have S2 := S.call1 5 rfl C | have S2 := S.call1 6 rfl C | have S2 := S.call1 7 rfl C | have S2 := S.call1 8 rfl C); clear C S; revert S2; intro S; walk_at "cl"))
local macro_rules | `(tactic| walk_at "drip") => `(tactic| (refine ⟨_, _, rfl, _, _, _, _, rfl, rfl, (by first | decide | omega), (by first | decide +kernel | omega), (by walk_at "at"), hvo, (by omega), ?_⟩; clear hvo; intro d ov G1 hd0 hd1 hvo C; walk_at "call1"; (try clear G); revert G1; intro G S; revert hd1 hd0 d))
local macro_rules | `(tactic| walk_at "app") => `(tactic| ((first | refine w_app S 0 rfl (by walk_at "len") ?_ | refine w_app S 1 rfl (by walk_at "len") ?_ | refine w_app S 2 rfl (by walk_at "len") ?_ | refine w_app S 3 rfl (by walk_at "len") ?_ | refine w_app S 4 rfl (by walk_at "len") ?_ | refine w_app S 5 rfl (by walk_at "len") ?_ | refine w_app S 6 rfl (by walk_at "len") ?_); clear S; (try clear G); intro G S; walk_at "cl"))
local macro_rules | `(tactic| walk_at "sub") => `(tactic| repeat (with_reducible first | exact List.Sublist.slnil | exact List.Sublist.refl _ | refine List.Sublist.cons₂ _ ?_ | refine List.Sublist.cons _ ?_))
local macro_rules | `(tactic| walk_at "pop") => `(tactic| ((first | refine w_pop S 0 rfl ?_ | refine w_pop S 1 rfl ?_ | refine w_pop S 2 rfl ?_ | refine w_pop S 3 rfl ?_); clear S; (try clear G); intro G S; walk_at "cl"))
theorem ok_law_reel {P : Program} {w : World} {K : PySem.W.Frag} {mg : Str → Option Value} {base : Heap} (T : Txt K mg) :
    OkF P w K mg base CX0 1 "_law_reel" ["script", "k"] (sp_law_reel K) := by
  refine okF0_of T.d__law_reel sc_law_reel (fun vs H Q E h => ?_) (fun f cdv A fr s H0 vs Q E hG0 hr h => ?_)
  · obtain ⟨x0, x1, rfl, _⟩ := h; rfl
  · obtain ⟨x0, x1, rfl, h⟩ := h
    have nd : N_law_reel.Nodup := sc_law_reel.nd
    have hG : (A.deeper (envOfC "_law_reel" (defScope st_law_reel) s.heap.objs.size f cdv)).guards = some [] := hG0
    have hu := hu_of hr
    refine ⟨_, (pss_cons (ps_set (i := 2) nd (by rfl) (.inl (by rfl)) pe_int)
    (pss_cons (ps_if (pt_cmpR op_lt (pv 1) (pe_callB (call_lenK (K := K) rfl) (by rfl) T.b_len (by decide +kernel) (pa_cons (pv 0) pa_nil)) (nomark _))
      (pss_one (ps_set (i := 2) nd (by rfl) (.inl (by rfl)) (pe_ix (ix_listK (K := K) rfl) (pv 0) (pv 1) (fun _ _ => rfl))))
      pss_nil)
    (pss_one (ps_ret (pe_lst (pa_cons (pe_callB (call_max2 rfl) (by rfl) T.b_max (by decide +kernel) (pa_cons pe_int (pa_cons (pe_op op_sub (pv 2) (pe_op op_powW pe_int pe_int)) pa_nil))) (pa_cons (pe_op op_add (pe_op op_add (pe_op op_mul (pe_op op_mod (pv 2) (pe_op op_add (pe_op op_powW pe_int pe_int) pe_int)) pe_int) (pe_op op_mul pe_int (pv 1))) pe_int) (pa_cons pe_int pa_nil)))))))), ?_⟩
    refine w_start (σ' := [some x0, some x1, none]) rfl ?_
    obtain ⟨a, ns, k, rfl, rfl, hk, hk2, hs, q⟩ := h
    have S : Tr [] H0 H0 [] := Tr.refl
    have hp2 : (10 : Int) ^ Int.toNat 40 + 177 < 2 ^ 133 := by decide +kernel
    walk_at "w"
    refine w_ite (fun h1 => ?_) (fun h1 => ?_)
    · walk_at "w"
      refine w_ixL (v := .int (at0 ns k)) (by walk_at "sq") (atI_int hk (by simpa using h1)) ?_
      generalize at0 ns k = z
      walk_at "w"
      have d1 := Int.emod_nonneg z (by decide +kernel : (10 : Int) ^ Int.toNat 40 + 177 ≠ 0)
      have d2 := Int.emod_lt_of_pos z (by decide +kernel : (0 : Int) < 10 ^ Int.toNat 40 + 177)
      exact q _ _ _ ⟨_, _, _, rfl, by omega, by omega, by omega, by omega, by omega⟩ S
    · walk_at "w"
      have z0 : (0 : Int) % (10 ^ Int.toNat 40 + 177) = 0 := Int.zero_emod _
      exact q _ _ _ ⟨_, _, _, rfl, by omega, by omega, by omega, by omega, by omega⟩ S
theorem ok_law_turn {P : Program} {w : World} {K : PySem.W.Frag} {mg : Str → Option Value} {base : Heap} (T : Txt K mg) :
    OkF P w K mg base CX0 1 "_law_turn" ["reel", "size"] (sp_law_turn K) := by
  refine okF0_of T.d__law_turn sc_law_turn (fun vs H Q E h => ?_) (fun f cdv A fr s H0 vs Q E hG0 hr h => ?_)
  · obtain ⟨x0, x1, rfl, _⟩ := h; rfl
  · obtain ⟨x0, x1, rfl, h⟩ := h
    have nd : N_law_turn.Nodup := sc_law_turn.nd
    have hG : (A.deeper (envOfC "_law_turn" (defScope st_law_turn) s.heap.objs.size f cdv)).guards = some [] := hG0
    have hu := hu_of hr
    refine ⟨_, (pss_cons (ps_if (pt_cmpR op_gt (pe_ix (ix_listK (K := K) rfl) (pv 0) pe_int (fun _ _ => rfl)) pe_int (nomark _))
      (pss_cons (ps_set (i := 2) nd (by rfl) (.inl (by rfl)) (pe_op op_mod (pe_ix (ix_listK (K := K) rfl) (pv 0) pe_int (fun _ _ => rfl)) (pv 1)))
        (pss_cons (ps_asg (pe_op op_fdivW (pe_ix (ix_listK (K := K) rfl) (pv 0) pe_int (fun _ _ => rfl)) (pv 1)) (pg_sub (pv 0) pe_int set_list))
        (pss_one (ps_ret (pv 2)))))
      pss_nil)
    (pss_cons (ps_asg (pe_op op_add (pe_ix (ix_listK (K := K) rfl) (pv 0) pe_int (fun _ _ => rfl)) pe_int) (pg_sub (pv 0) pe_int set_list))
    (pss_cons (ps_set (i := 3) nd (by rfl) (.inl (by rfl)) (pe_op op_mod (pe_op op_powW (pe_op op_add (pe_ix (ix_listK (K := K) rfl) (pv 0) pe_int (fun _ _ => rfl)) (pe_op op_mulW pe_int (pe_ix (ix_listK (K := K) rfl) (pv 0) pe_int (fun _ _ => rfl)))) pe_int) (pe_op op_add (pe_op op_powW pe_int pe_int) pe_int)))
    (pss_cons (ps_set (i := 3) nd (by rfl) (.inl (by rfl)) (pe_op op_mod (pe_op op_add (pe_op op_mulW (pv 3) (pv 3)) (pe_op op_mulW pe_int (pe_ix (ix_listK (K := K) rfl) (pv 0) pe_int (fun _ _ => rfl)))) (pe_op op_add (pe_op op_powW pe_int pe_int) pe_int)))
    (pss_one (ps_ret (pe_op op_mod (pe_op op_fdivW (pv 3) pe_int) (pv 1)))))))), ?_⟩
    refine w_start (σ' := [some x0, some x1, none, none]) rfl ?_
    obtain ⟨v, o, n, m, rfl, rfl, hm, hm2, hv, ⟨a, b, c, rfl, ha, hb, hb2, hc, hc2⟩, hn, q⟩ := h
    have S : Tr [v] H0 H0 [(v, .lst [.int a, .int b, .int c])] := Tr.one hv
    have hm0 : (0 : Int) < m := by omega
    have hmW : ∀ i : Int, CDivW i m := fun i => wide_div hm0 hm2 (by decide) (by decide)
    walk_at "w"
    refine w_ite (fun h1 => ?_) (fun h1 => ?_)
    · walk_at "w"
      refine w_fdivW (hmW _) ?_
      walk_at "w"
      exact q _ _ _ (Int.emod_nonneg _ (by omega)) (Int.emod_lt_of_pos _ hm0) ⟨a / m, b, c, rfl, Int.ediv_nonneg ha (by omega), hb, hb2, hc, by omega⟩ S
    · walk_at "w"
      have hc3 : (c + 1).natAbs < 2 ^ 64 := by omega
      refine w_mulW (wide_mul (a := 64) (b := 64) (by decide) hc3 (by decide) (by decide) (by decide)) ?_
      walk_at "w"
      have hb3 : (b + 2860486313 * (c + 1)).natAbs < 2 ^ 250 := by omega
      refine w_pow ⟨by decide, by decide, hb3⟩ ?_
      walk_at "w"
      have hp : (0 : Int) < 10 ^ Int.toNat 43 + 57 := by decide +kernel
      have hp2 : (10 : Int) ^ Int.toNat 43 + 57 < 2 ^ 144 := by decide +kernel
      have d1 := Int.emod_nonneg ((b + 2860486313 * (c + 1)) ^ Int.toNat 3) (by omega : (10 : Int) ^ Int.toNat 43 + 57 ≠ 0)
      have d2 := Int.emod_lt_of_pos ((b + 2860486313 * (c + 1)) ^ Int.toNat 3) hp
      generalize (b + 2860486313 * (c + 1)) ^ Int.toNat 3 % (10 ^ Int.toNat 43 + 57) = d at *
      have hd : d.natAbs < 2 ^ 144 := by omega
      refine w_mulW (wide_mul hd hd (by decide) (by decide) (by decide)) ?_
      walk_at "w"
      refine w_mulW (wide_mul (a := 64) (b := 64) (by decide) hc3 (by decide) (by decide) (by decide)) ?_
      walk_at "w"
      refine w_fdivW ⟨by decide, by decide +kernel⟩ ?_
      walk_at "w"
      exact q _ _ _ (Int.emod_nonneg _ (by omega)) (Int.emod_lt_of_pos _ hm0) ⟨a, b, c + 1, rfl, ha, hb, hb2, by omega, by omega⟩ S
theorem ok_law_grown {P : Program} {w : World} {K : PySem.W.Frag} {mg : Str → Option Value} {base : Heap} (T : Txt K mg)
    (G_law_turn : OkF P w K mg base CX0 1 "_law_turn" ["reel", "size"] (sp_law_turn K)) :
    OkF P w K mg base CX0 2 "_law_grown" ["reel", "size"] (sp_law_grown K) := by
  refine okF0_of T.d__law_grown sc_law_grown (fun vs H Q E h => ?_) (fun f cdv A fr s H0 vs Q E hG0 hr h => ?_)
  · obtain ⟨x0, x1, rfl, _⟩ := h; rfl
  · obtain ⟨x0, x1, rfl, h⟩ := h
    have nd : N_law_grown.Nodup := sc_law_grown.nd
    have hG : (A.deeper (envOfC "_law_grown" (defScope st_law_grown) s.heap.objs.size f cdv)).guards = some [] := hG0
    have hu := hu_of hr
    refine ⟨_, (pss_cons (ps_par3 (i := 2) (j := 3) (l := 4) (by rfl) nd (by rfl) (by rfl) (by rfl) (by decide) (by decide) (by decide) (by rfl) (by rfl) (by rfl) (pa_cons (pe_callF G_law_turn hG (hr.mono (by decide)) (by rfl) pass0 (pa_cons (pv 0) (pa_cons pe_int pa_nil))) (pa_cons (pe_lst (pa_cons pe_int pa_nil)) (pa_cons (pe_lst (pa_cons pe_int pa_nil)) pa_nil))) (by rfl))
    (pss_cons (ps_for PassesOwn.never (by rfl) (pi_range2 (by rfl) T.b_range (pa_cons pe_int (pa_cons (pv 1) pa_nil))) (pg_name (i := 5) nd (by rfl) (.inl (by rfl)))
      (pss_cons (ps_set (i := 6) nd (by rfl) (.inl (by rfl)) (pe_callB (call_lenK (K := K) rfl) (by rfl) T.b_len (by decide +kernel) (pa_cons (pv 4) pa_nil)))
        (pss_cons (ps_par (i := 7) (j := 8) (by rfl) nd (by rfl) (by rfl) (by decide) (by rfl) (by rfl) (pa_cons (pe_callF G_law_turn hG (hr.mono (by decide)) (by rfl) pass0 (pa_cons (pv 0) (pa_cons (pe_callB (call_min2 rfl) (by rfl) T.b_min (by decide +kernel) (pa_cons pe_int (pa_cons (pv 6) pa_nil))) pa_nil))) (pa_cons (pe_op op_sub (pe_op op_sub (pv 6) pe_int) (pe_callF G_law_turn hG (hr.mono (by decide)) (by rfl) pass0 (pa_cons (pv 0) (pa_cons (pe_callB (call_min2 rfl) (by rfl) T.b_min (by decide +kernel) (pa_cons pe_int (pa_cons (pv 6) pa_nil))) pa_nil)))) pa_nil)) (by rfl))
        (Evl.pss_cut (ps_set (i := 9) nd (by rfl) (.inl (by rfl)) (pe_ifExp (pt_cmpR op_eq (pe_callF G_law_turn hG (hr.mono (by decide)) (by rfl) pass0 (pa_cons (pv 0) (pa_cons pe_int pa_nil))) pe_int (nomark _)) (pe_callF G_law_turn hG (hr.mono (by decide)) (by rfl) pass0 (pa_cons (pv 0) (pa_cons (pv 6) pa_nil))) (pe_op op_sub (pv 6) pe_int)))
        (Evl.pss_cut (ps_set (i := 10) nd (by rfl) (.inl (by rfl)) (pe_ix (ix_listK (K := K) rfl) (pe_lst (pa_cons (pe_callF G_law_turn hG (hr.mono (by decide)) (by rfl) pass0 (pa_cons (pv 0) (pa_cons (pv 6) pa_nil))) (pa_cons (pv 7) (pa_cons (pv 8) (pa_cons (pv 9) (pa_cons (pe_op op_fdiv (pv 6) pe_int) (pa_cons (pe_callF G_law_turn hG (hr.mono (by decide)) (by rfl) pass0 (pa_cons (pv 0) (pa_cons (pv 6) pa_nil))) pa_nil))))))) (pv 2) (fun _ _ => rfl)))
        (pss_cons (ps_expr (pe_bm PySem.F.plainAttrs_list PySem.F.slot_list_append PySem.F.type_list_append mt_append (pv 3) (pa_cons (pe_ix (ix_listK (K := K) rfl) (pv 4) (pv 10) (fun _ _ => rfl)) pa_nil)))
        (pss_one (ps_set (i := 4) nd (by rfl) (.inl (by rfl)) (pe_op op_cat (pe_slice (sl_listK (K := K) rfl) (pv 4) po_none (po_some (pe_op op_add (pv 10) pe_int))) (pe_lst (pa_cons (pv 5) pa_nil)))))))))))
    (pss_one (ps_ret (pv 3))))), ?_⟩
    refine w_start (σ' := [some x0, some x1, none, none, none, none, none, none, none, none, none]) rfl ?_
    obtain ⟨v, o, n, m, rfl, rfl, hm, hm2, hv, hvo, hn, q⟩ := h
    have S : Tr [v] H0 H0 [(v, o)] := Tr.one hv
    walk_at "w"
    walk_at "drip"
    intro way hw0 hw1
    walk_at "w"
    refine ⟨_, _, rfl, ⟨by omega, by omega, by omega, by omega⟩, for_range (lo := 1) (n := (m - 1).toNat) (fun i σ G => ∃ ns ts a pf ov y5 y6 y7 y8 y9 y10, σ = [some (.ref v), some (.int m), some (.int way), some (.ref pf), some (.ref a), y5, y6, y7, y8, y9, y10] ∧
      LT ns ts ∧ ns.length = i + 1 ∧ ReelO (n + 1 + 6 * i) ov ∧ Tr [v] H0 G [(a, .lst (ts.map V.int)), (pf, .lst (ns.map V.int)), (v, ov)]) ?_ ?_ ?_⟩
    · exact ⟨[0], [0], _, _, _, _, _, _, _, _, _, rfl, LT.one, rfl, hvo, S⟩
    · clear S hvo
      rintro i σ G hi ⟨ns, ts, a, pf, ov, y5, y6, y7, y8, y9, y10, rfl, hT, hl, hvo, S⟩
      have hlen := hT.len
      have ht : ((ts.map V.int).length : Int) = ts.length := by simp
      walk_at "w"
      rw [ht]
      walk_at "drip"
      intro d1 h10 h11
      walk_at "w"
      walk_at "drip"
      intro d2 h20 h21
      walk_at "w"
      refine ⟨fun σ G => ∃ ra ov, σ = [some (.ref v), some (.int m), some (.int way), some (.ref pf), some (.ref a), some (.int (1 + i)), some (.int ts.length), some (.int d1), some (.int (ts.length - 1 - d2)), some (.int ra), y10] ∧ 0 ≤ ra ∧ ra < ts.length ∧ ReelO (n + 1 + 6 * i + 4) ov ∧ Tr [v] H0 G [(a, .lst (ts.map V.int)), (pf, .lst (ns.map V.int)), (v, ov)], ?_, ?_⟩
      · walk_at "w"
        walk_at "drip"
        intro d3 h30 h31
        walk_at "w"
        refine w_ite (fun h3 => ?_) (fun h3 => ?_)
        · walk_at "w"
          walk_at "drip"
          intro d4 h40 h41
          walk_at "w"
          exact ⟨d4, _, rfl, h40, h41, hvo.le (by omega), S⟩
        · walk_at "w"
          exact ⟨_, _, rfl, by omega, by omega, hvo.le (by omega), S⟩
      · clear S hvo
        rintro σ G ⟨ra, ov, rfl, hr0, hr1, hvo, S⟩
        walk_at "w"
        refine ⟨fun σ G => ∃ sp ov, σ = [some (.ref v), some (.int m), some (.int way), some (.ref pf), some (.ref a), some (.int (1 + i)), some (.int ts.length), some (.int d1), some (.int (ts.length - 1 - d2)), some (.int ra), some (.int sp)] ∧ 0 ≤ sp ∧ sp < ts.length ∧ ReelO (n + 1 + 6 * (i + 1)) ov ∧ Tr [v] H0 G [(a, .lst (ts.map V.int)), (pf, .lst (ns.map V.int)), (v, ov)], ?_, ?_⟩
        · walk_at "w"
          walk_at "drip"
          intro d5 h50 h51
          walk_at "w"
          walk_at "drip"
          intro d6 h60 h61
          walk_at "w"
          have hm6 := at0_mem (ns := [d5, d1, ((ts.length : Nat) : Int) - 1 - d2, ra, ((ts.length : Nat) : Int) / 2, d6]) hw0 (by simp; omega)
          have ha6 := atI_int (ns := [d5, d1, ((ts.length : Nat) : Int) - 1 - d2, ra, ((ts.length : Nat) : Int) / 2, d6]) hw0 (by simp; omega)
          refine w_ixL (by walk_at "sq") ha6 ?_
          generalize at0 _ way = sp at *
          walk_at "w"
          refine ⟨sp, _, rfl, ?_, ?_, hvo.le (by omega), S.drop⟩
          all_goals
            simp only [List.mem_cons, List.not_mem_nil, or_false] at hm6
            rcases hm6 with rfl | rfl | rfl | rfl | rfl | rfl <;> omega
        · clear S hvo
          rintro σ G ⟨sp, ov, rfl, hs0, hs1, hvo, S⟩
          have hs : ts[sp.toNat]? = some (at0 ts sp) := at0_get? hs0 hs1
          have hT2 := hT.step hs (by omega)
          have e1 : (sp + 1).toNat = sp.toNat + 1 := by omega
          have e2 : (1 : Int) + i = ns.length := by omega
          walk_at "w"
          refine w_ixL (by walk_at "sq") (atI_int hs0 hs1) ?_
          walk_at "w"
          walk_at "app"
          walk_at "w"
          rw [cut_to_int (by omega)] at S
          walk_at "w"
          rw [e1, snoc_int, snoc_int, e2] at S
          rw [e2]
          exact ⟨_, _, _, _, _, _, _, _, _, _, _, rfl, hT2, by simp; omega, hvo.le (by omega), S.sub (by walk_at "sub")⟩
    · clear S
      rintro σ G ⟨ns, ts, a, pf, ov, y5, y6, y7, y8, y9, y10, rfl, hT, hl, hvo, S⟩
      walk_at "w"
      refine q _ ns ov _ hT.log (by omega) (hvo.le (by omega)) ?_
      exact S.drop.perm (List.Perm.swap _ _ _)
theorem ok_law_chain {P : Program} {w : World} {K : PySem.W.Frag} {mg : Str → Option Value} {base : Heap} (T : Txt K mg)
    (G_law_turn : OkF P w K mg base CX0 1 "_law_turn" ["reel", "size"] (sp_law_turn K)) :
    OkF P w K mg base CX0 2 "_law_chain" ["reel", "links", "most"] (sp_law_chain K) := by
  refine okF0_of T.d__law_chain sc_law_chain (fun vs H Q E h => ?_) (fun f cdv A fr s H0 vs Q E hG0 hr h => ?_)
  · obtain ⟨x0, x1, x2, rfl, _⟩ := h; rfl
  · obtain ⟨x0, x1, x2, rfl, h⟩ := h
    have nd : N_law_chain.Nodup := sc_law_chain.nd
    have hG : (A.deeper (envOfC "_law_chain" (defScope st_law_chain) s.heap.objs.size f cdv)).guards = some [] := hG0
    have hu := hu_of hr
    refine ⟨_, (pss_cons (ps_set (i := 3) nd (by rfl) (.inl (by rfl)) (pe_lst (pa_cons (pe_callF G_law_turn hG (hr.mono (by decide)) (by rfl) pass0 (pa_cons (pv 0) (pa_cons (pe_callB (call_lenK (K := K) rfl) (by rfl) T.b_len (by decide +kernel) (pa_cons (pv 1) pa_nil)) pa_nil))) pa_nil)))
    (pss_cons (ps_set (i := 4) nd (by rfl) (.inl (by rfl)) (pe_callF G_law_turn hG (hr.mono (by decide)) (by rfl) pass0 (pa_cons (pv 0) (pa_cons pe_int pa_nil))))
    (pss_cons (ps_for PassesOwn.never (by rfl) (pi_range1 (by rfl) T.b_range (pa_cons (pe_callF G_law_turn hG (hr.mono (by decide)) (by rfl) pass0 (pa_cons (pv 0) (pa_cons (pv 2) pa_nil))) pa_nil)) (pg_name (i := 5) nd (by rfl) (.inl (by rfl)))
      (pss_cons (ps_set (i := 6) nd (by rfl) (.inl (by rfl)) (pe_ix (ix_listK (K := K) rfl) (pv 3) (pe_un un_neg pe_int) (fun _ _ => rfl)))
        (pss_cons (ps_if (pt_cmpR op_eq (pv 6) pe_int (nomark _))
          (pss_one (ps_ret (pv 3)))
          pss_nil)
        (pss_one (ps_expr (pe_bm PySem.F.plainAttrs_list PySem.F.slot_list_append PySem.F.type_list_append mt_append (pv 3) (pa_cons (pe_ix (ix_listK (K := K) rfl) (pe_lst (pa_cons (pe_ix (ix_listK (K := K) rfl) (pv 1) (pv 6) (fun _ _ => rfl)) (pa_cons (pe_op op_sub (pv 6) pe_int) (pa_cons (pe_ix (ix_listK (K := K) rfl) (pe_lst (pa_cons (pe_ix (ix_listK (K := K) rfl) (pv 1) (pv 6) (fun _ _ => rfl)) (pa_cons (pe_op op_sub (pv 6) pe_int) pa_nil))) (pe_callF G_law_turn hG (hr.mono (by decide)) (by rfl) pass0 (pa_cons (pv 0) (pa_cons pe_int pa_nil))) (fun _ _ => rfl)) pa_nil)))) (pv 4) (fun _ _ => rfl)) pa_nil)))))))
    (pss_one (ps_ret (pv 3)))))), ?_⟩
    refine w_start (σ' := [some x0, some x1, some x2, none, none, none, none]) rfl ?_
    obtain ⟨v, a, o, ns, n, m, rfl, rfl, rfl, hm, hm2, hv, hvo, hn, hav, ha, hL, q⟩ := h
    have S : Tr [v] H0 H0 [(v, o)] := Tr.one hv
    have hF := hL.form
    have hz := hF.2.1
    have ht : ((ns.map V.int).length : Int) = ns.length := by simp
    have hz1 := hF.1
    walk_at "w"
    rw [ht]
    walk_at "drip"
    intro s hs0 hs1
    walk_at "w"
    obtain ⟨pf, hpf⟩ : ∃ z, z = p := ⟨_, rfl⟩
    rw [← hpf] at S ⊢
    walk_at "drip"
    intro style st0 st1
    walk_at "w"
    walk_at "drip"
    intro k hk0 hk1
    walk_at "w"
    refine ⟨_, rfl, by omega, by omega, for_range (lo := 0) (n := k.toNat) (fun i σ G => ∃ (pre : List Int) (x : Int) (ov : HO) (y5 y6 : Option V), σ = [some (.ref v), some (.ref a), some (.int m), some (.ref pf), some (.int style), y5, y6] ∧ pre.length ≤ i ∧ Ch ns (pre ++ [x]) ∧ ReelO (n + 3 + i) ov ∧ Tr [v] H0 G [(pf, .lst ((pre ++ [x]).map V.int)), (v, ov)]) ?_ ?_ ?_⟩
    · exact ⟨[], s, _, _, _, rfl, Nat.le_refl _, Ch.one hs0 hs1, hvo, S⟩
    · clear S hvo
      rintro i σ G hi ⟨pre, x, ov, y5, y6, rfl, hpl, hC, hvo, S⟩
      have hlast : atI ((pre ++ [x]).map V.int) (-1) = some (.int x) := atI_neg1 (by simp)
      have hx := hC.rg x (by simp)
      walk_at "w"
      refine w_ixL (by walk_at "sq") hlast ?_
      walk_at "w"
      refine w_ite (fun h1 => ?_) (fun h1 => ?_)
      · walk_at "w"
        exact q pf _ _ _ hC (hvo.le (by omega)) (S.perm (List.Perm.swap _ _ _))
      · have hb := at0_lt hF (i := x) (by omega) hx.2
        walk_at "w"
        refine w_ixL (by walk_at "sq") (atI_int hx.1 hx.2) ?_
        walk_at "w"
        refine w_ixL (by walk_at "sq") (atI_int hx.1 hx.2) ?_
        walk_at "w"
        walk_at "drip"
        intro d hd0 hd1
        have hy1 : at0 [at0 ns x, x - 1] d = x - 1 ∨ at0 [at0 ns x, x - 1] d = at0 ns x := by
          have := at0_mem (ns := [at0 ns x, x - 1]) (i := d) hd0 (by simp; omega)
          simp only [List.mem_cons, List.not_mem_nil, or_false] at this
          omega
        have ha := atI_int (ns := [at0 ns x, x - 1]) (i := d) hd0 (by simp; omega)
        refine w_ixL (by walk_at "sq") ha ?_
        generalize at0 [at0 ns x, x - 1] d = y at *
        obtain ⟨pq, hpq⟩ : ∃ z, z = p := ⟨_, rfl⟩
        rw [← hpq] at S
        walk_at "w"
        have hm2 := at0_mem (ns := [at0 ns x, x - 1, y]) (i := style) st0 (by simp; omega)
        have ha2 := atI_int (ns := [at0 ns x, x - 1, y]) (i := style) st0 (by simp; omega)
        refine w_ixL (by walk_at "sq") ha2 ?_
        generalize at0 [at0 ns x, x - 1, y] style = z at *
        have hz1 : z = x - 1 ∨ z = at0 ns x := by
          simp only [List.mem_cons, List.not_mem_nil, or_false] at hm2
          omega
        walk_at "w"
        refine w_app S 2 rfl (by rw [List.length_map, List.length_append]; simp; omega) ?_
        clear S
        intro G S
        walk_at "cl"
        rw [snoc_int] at S
        exact ⟨pre ++ [x], z, _, _, _, rfl, by simp; omega, hC.snoc h1 hz1 (by omega) (by omega), hvo.le (by omega), S.drop.drop⟩
    · clear S
      rintro σ G ⟨pre, x, ov, y5, y6, rfl, hpl, hC, hvo, S⟩
      walk_at "w"
      exact q pf _ _ _ hC (hvo.le (by omega)) (S.perm (List.Perm.swap _ _ _))
theorem ok_law_log_text {P : Program} {w : World} {K : PySem.W.Frag} {mg : Str → Option Value} {base : Heap} (T : Txt K mg) :
    OkF P w K mg base CX0 1 "_law_log_text" ["links"] (sp_law_log_text K) := by
  refine okF0_of T.d__law_log_text sc_law_log_text (fun vs H Q E h => ?_) (fun f cdv A fr s H0 vs Q E hG0 hr h => ?_)
  · obtain ⟨x0, rfl, _⟩ := h; rfl
  · obtain ⟨x0, rfl, h⟩ := h
    have nd : N_law_log_text.Nodup := sc_law_log_text.nd
    have hG : (A.deeper (envOfC "_law_log_text" (defScope st_law_log_text) s.heap.objs.size f cdv)).guards = some [] := hG0
    have hu := hu_of hr
    refine ⟨_, (pss_one (ps_ret (pe_ifExp (pt_cmpR op_gt (pe_callB (call_lenK (K := K) rfl) (by rfl) T.b_len (by decide +kernel) (pa_cons (pv 0) pa_nil)) pe_int (nomark _)) (pe_join pe_str (pe_lc (own := [("link", 1)]) (g := gName 1) (by rfl) nd (pi_list (pe_slice (sl_listK (K := K) rfl) (pv 0) (po_some pe_int) po_none)) (blkOk_by (own := [("link", 1)]) (N := N_law_log_text) (sc := defScope st_law_log_text) (by decide +kernel)) (fun _ _ _ _ _ => (pg_name (i := 1) nd (by rfl) (by first | exact .inl rfl | exact .inr rfl))) (fun _ _ _ _ _ => pts_nil) (fun _ _ _ _ _ => (pe_callTy call_str_int (by rfl) T.b_str (by decide +kernel) (pa_cons (pv 1) pa_nil))))) pe_str))), ?_⟩
    refine w_start (σ' := [some x0, none]) rfl ?_
    obtain ⟨a, ns, rfl, ha, hL, q⟩ := h
    have S : Tr [] H0 H0 [] := Tr.refl
    have hF := hL.form
    have hz := hF.2.1
    have ht : ((ns.map V.int).length : Int) = ns.length := by simp
    walk_at "w"
    rw [ht]
    refine w_ite (fun h1 => ?_) (fun h1 => ?_)
    · refine w_m1 ?_
      walk_at "w"
      refine ⟨⟨_, rfl⟩, ?_⟩
      walk_at "w"
      rw [cut_from_int (by omega), show (1 : Int).toNat = 1 from rfl] at S
      have hb : ∀ n ∈ ns.drop 1, 0 ≤ n ∧ n < 1000 := fun n hn => by
        obtain ⟨i, hi, e⟩ := List.mem_iff_getElem.mp (List.mem_of_mem_drop hn)
        have := hF.nat hi
        omega
      have hl : (ns.drop 1).length ≤ 200 := by rw [List.length_drop]; omega
      rw [show logS ns = joinS " " (ns.drop 1) by unfold logS; rw [if_pos (by omega)]] at q
      generalize ns.drop 1 = ms at *
      obtain ⟨pc, hpc⟩ : ∃ z, z = p := ⟨_, rfl⟩
      rw [← hpc] at S ⊢
      refine ⟨_, rfl, ⟨_, .inl (.inl (by walk_at "at"))⟩, fun D hD => lc_list (xs := ms.map V.int) (fun i G => Tr [] H0 G [(D, .lst (((ms.take i).map numS).map V.str)), (pc, .lst (ms.map V.int))]) ?_ ?_ ?_ ?_⟩
      · rw [List.take_zero]
        exact S.new (o := .lst []) hD
      · intro i G _ S
        walk_at "sq"
      · clear S
        intro i x G hx S
        obtain ⟨z, hz, rfl⟩ := int_of_get hx
        have hi := (List.getElem?_eq_some_iff.mp hz).1
        have hzb := hb z (List.mem_of_getElem? hz)
        walk_at "w"
        refine ⟨rfl, ?_⟩
        walk_at "w"
        refine ⟨z, rfl, PySem.Flt.log2_lt_of (by decide) (Nat.lt_trans (m := 2 ^ 20) (by omega) (by decide +kernel)), ?_⟩
        rw [take_snoc' hz, List.map_append, List.map_append]
        refine w_acc (S.get 0 rfl) (by rw [List.length_map, List.length_map, List.length_take]; omega) ?_
        exact S.putN 0 rfl
      · clear S
        intro G S
        rw [List.length_map, List.take_of_length_le (Nat.le_refl _)] at S
        have h1 := lens_sum ms hb
        refine ⟨_, D, ms.map numS, rfl, rfl, .inl (.inl (.inl (S.get 0 rfl))), by rw [List.length_map]; show _ + ms.length * 1 ≤ _; omega, ?_⟩
        exact q _ S.drop.drop
    · walk_at "w"
      rw [show logS ns = "-" by unfold logS; rw [if_neg (by omega)]] at q
      exact q _ S
theorem okare_integers {P : Program} {w : World} {K : PySem.W.Frag} {mg : Str → Option Value} {base : Heap} (T : Txt K mg) :
    OkF P w K mg base CX0 1 "are_integers" ["values"] (spare_integers K) := by
  refine okF0_of T.d_are_integers scare_integers (fun vs H Q E h => ?_) (fun f cdv A fr s H0 vs Q E hG0 hr h => ?_)
  · obtain ⟨x0, rfl, _⟩ := h; rfl
  · obtain ⟨x0, rfl, h⟩ := h
    have nd : Nare_integers.Nodup := scare_integers.nd
    have hG : (A.deeper (envOfC "are_integers" (defScope stare_integers) s.heap.objs.size f cdv)).guards = some [] := hG0
    have hu := hu_of hr
    refine ⟨_, (pss_cons (ps_setLc (i := 1) (own := [("value", 2)]) (g := gName 2) (by rfl) nd (by rfl) (by rfl) (sw_true rfl rfl rfl (by decide +kernel)) (pi_list (pv 0)) (blkOk_by (own := [("value", 2)]) (N := Nare_integers) (sc := defScope stare_integers) (by decide +kernel)) (fun _ _ _ _ _ => (pg_name (i := 2) nd (by rfl) (by first | exact .inl rfl | exact .inr rfl))) (fun _ _ _ _ _ => (pts_one (PW.pt (pw_or (pt_not (pt_val (pe_callB (call_isiK1 (K := K) rfl) (by rfl) T.b_isinstance (by decide +kernel) (pa_cons (pv 2) (pa_cons (pe_bltn (v := .ty "int") (by rfl) T.b_int (by decide +kernel) rfl) pa_nil))))) (pw_or (pt_cmpR op_isV (pv 2) pe_bl (nomark _)) (pw_or1 (pt_cmpR op_isV (pv 2) pe_bl (nomark _)))))))) (fun _ _ _ _ _ => (pv 2)))
    (pss_one (ps_ret (pe_cmpR op_eq (pe_callB (call_lenK (K := K) rfl) (by rfl) T.b_len (by decide +kernel) (pa_cons (pv 1) pa_nil)) pe_int (nomark _))))), ?_⟩
    refine w_start (σ' := [some x0, none, none]) rfl ?_
    obtain ⟨a, xs, rfl, ha, hl, hty, q⟩ := h
    have S : Tr [] H0 H0 [] := Tr.refl
    walk_at "w"
    refine ⟨_, rfl, ⟨_, by walk_at "sq"⟩, fun D hD => lc_list (xs := xs) (fun j G => Tr [] H0 G [(D, .lst ((xs.take j).filter fun v => !isIntV v))]) ?_ ?_ ?_ ?_⟩
    · exact S.new (o := .lst []) hD
    · intro j G _ S
      walk_at "sq"
    · clear S
      intro j x G hx S
      obtain ⟨n, hn⟩ := hty x (List.mem_of_getElem? hx)
      have hn2 : Ty G x n := hn.mono fun b o hb => S.fr b o hb (by simp)
      have hfl := take_filt_len (ls := xs) (p := fun v => !isIntV v) (j := j)
      have yes : (!isIntV x) = true → ∃ acc, G D = some (.lst acc) ∧ acc.length < sizeLine ∧ Tr [] H0 (upd G D (.lst (acc ++ [x]))) [(D, .lst ((xs.take (j + 1)).filter fun v => !isIntV v))] := fun h => by
        refine w_acc (S.get 0 rfl) (by omega) ?_
        rw [take_filt_yes (p := fun v => !isIntV v) hx h]
        exact S.putN 0 rfl
      have no : (!isIntV x) = false → Tr [] H0 G [(D, .lst ((xs.take (j + 1)).filter fun v => !isIntV v))] := fun h => by
        rw [take_filt_no (p := fun v => !isIntV v) hx h]
        exact S
      walk_at "w"
      refine ⟨rfl, ?_⟩
      walk_at "w"
      refine w_isInt hn2 ?_
      cases hn with
      | int i =>
        rw [show isI (.int i) = true from rfl]
        walk_at "w"
        refine w_isVI ?_
        walk_at "w"
        refine w_isVI ?_
        walk_at "w"
        exact no rfl
      | bl b =>
        rw [show isI (.bl b) = true from rfl]
        walk_at "w"
        refine w_isVB ?_
        cases b with
        | true =>
          rw [decide_eq_true rfl]
          walk_at "w"
          exact yes rfl
        | false =>
          rw [decide_eq_false (by decide)]
          walk_at "w"
          refine w_isVB ?_
          rw [decide_eq_true rfl]
          walk_at "w"
          exact yes rfl
      | _ =>
        rw [show isI _ = false from rfl]
        walk_at "w"
        exact yes rfl
    · clear S
      intro G S
      rw [List.take_of_length_le (Nat.le_refl _)] at S
      walk_at "w"
      have e : decide (((xs.filter fun v => !isIntV v).length : Int) = 0) = xs.all isIntV := by
        rw [Bool.eq_iff_iff, decide_eq_true_eq]
        have e0 : (((xs.filter fun v => !isIntV v).length : Int) = 0) ↔ xs.filter (fun v => !isIntV v) = [] := by
          rw [← List.length_eq_zero_iff]
          omega
        rw [e0, List.filter_eq_nil_iff, List.all_eq_true]
        simp
      rw [e]
      exact q _ S.drop
theorem ok_are_links {P : Program} {w : World} {K : PySem.W.Frag} {mg : Str → Option Value} {base : Heap} (T : Txt K mg)
    (Gare_integers : OkF P w K mg base CX0 1 "are_integers" ["values"] (spare_integers K)) :
    OkF P w K mg base CX0 2 "_are_links" ["value"] (sp_are_links K) := by
  refine okF0_of T.d__are_links sc_are_links (fun vs H Q E h => ?_) (fun f cdv A fr s H0 vs Q E hG0 hr h => ?_)
  · obtain ⟨x0, rfl, _⟩ := h; rfl
  · obtain ⟨x0, rfl, h⟩ := h
    have nd : N_are_links.Nodup := sc_are_links.nd
    have hG : (A.deeper (envOfC "_are_links" (defScope st_are_links) s.heap.objs.size f cdv)).guards = some [] := hG0
    have hu := hu_of hr
    obtain ⟨tkMOST_ENTRIES, hcMOST_ENTRIES⟩ := T.c_MOST_ENTRIES
    refine ⟨_, (pss_cons (ps_if (PW.pt (pw_or (pt_not (pt_val (pe_callB (call_isiK1 (K := K) rfl) (by rfl) T.b_isinstance (by decide +kernel) (pa_cons (pv 0) (pa_cons (pe_bltn (v := .ty "list") (by rfl) T.b_list (by decide +kernel) rfl) pa_nil))))) (pw_or1 (pt_not (pt_chain op_le op_le pe_int (pe_callB (call_lenK (K := K) rfl) (by rfl) T.b_len (by decide +kernel) (pa_cons (pv 0) pa_nil)) (pe_glob (v := .int 150) (by rfl) hcMOST_ENTRIES ⟨_, rfl⟩))))))
      (pss_one (ps_ret pe_bl))
      pss_nil)
    (pss_one (ps_ret (pe_and (pe_callF Gare_integers hG (hr.mono (by decide)) (by rfl) pass0 (pa_cons (pv 0) pa_nil)) (pe_one (pe_cmpR op_eq (pe_ix (ix_listK (K := K) rfl) (pv 0) pe_int (fun _ _ => rfl)) pe_int (nomark _))))))), ?_⟩
    refine w_start (σ' := [some x0]) rfl ?_
    obtain ⟨⟨n, hx⟩, hi, q⟩ := h
    have S : Tr [] H0 H0 [] := Tr.refl
    walk_at "w"
    refine w_isList hx ?_
    walk_at "w"
    refine w_itN (fun h1 => ?_) (fun h1 => ?_)
    · walk_at "w"
      have e : linksV H0 x0 = false := by
        cases hx with
        | lst e => simp [isL, e] at h1
        | tup e => simp [linksV, e]
        | dK e => simp [linksV, e]
        | _ => rfl
      rw [e] at q
      exact q H0 S
    · obtain ⟨a, xs, rfl, ha⟩ : ∃ a xs, x0 = .ref a ∧ H0 a = some (.lst xs) := by
        cases hx with
        | lst e => exact ⟨_, _, rfl, e⟩
        | tup e => simp [isL, e] at h1
        | dK e => simp [isL, e] at h1
        | _ => simp [isL] at h1
      rw [linksV_ref ha] at q
      have hty := hi a xs rfl ha
      walk_at "w"
      refine w_ite (fun h2 => ?_) (fun h2 => ?_)
      · walk_at "w"
        refine w_iteN (fun h3 => ?_) (fun h3 => ?_)
        · walk_at "w"
          have e2 : linksL xs = false := by
            unfold linksL
            rw [decide_eq_false (show ¬ xs.length ≤ 150 by omega)]
            simp
          rw [e2] at q
          exact q H0 S
        · walk_at "w"
          refine ⟨_, rfl, a, xs, rfl, by walk_at "at", by omega, hty, fun G C => ?_⟩
          replace S := S.call C
          walk_at "cl"
          have e3 : linksL xs = (xs.all isIntV && decide (xs.head? = some (.int 0))) := by
            unfold linksL
            rw [decide_eq_true (show 1 ≤ xs.length by omega), decide_eq_true (show xs.length ≤ 150 by omega)]
            rfl
          rw [e3] at q
          walk_at "w"
          refine w_itb (fun h4 => ?_) (fun h4 => ?_)
          · obtain ⟨ns, rfl⟩ := ints_allV h4
            rw [List.length_map] at h2 h3
            rw [h4, Bool.true_and] at q
            walk_at "w"
            refine w_ixL (by walk_at "sq") (atI_int (by omega) (by omega)) ?_
            walk_at "w"
            have e4 : decide ((ns.map V.int).head? = some (.int 0)) = decide (at0 ns 0 = 0) := by
              cases ns with
              | nil => simp at h2
              | cons n ns =>
                rw [decide_eq_decide]
                simp [at0]
            rw [e4] at q
            exact q _ S
          · rw [h4, Bool.false_and] at q
            exact q _ S
      · walk_at "w"
        have e2 : linksL xs = false := by
          unfold linksL
          rw [decide_eq_false (show ¬ 1 ≤ xs.length by omega)]
          rfl
        rw [e2] at q
        exact q H0 S
theorem ok_cross_nowhere {P : Program} {w : World} {K : PySem.W.Frag} {mg : Str → Option Value} {base : Heap} (T : Txt K mg) :
    OkF P w K mg base CX0 1 "_cross_nowhere" ["links"] (sp_cross_nowhere K) := by
  refine okF0_of T.d__cross_nowhere sc_cross_nowhere (fun vs H Q E h => ?_) (fun f cdv A fr s H0 vs Q E hG0 hr h => ?_)
  · obtain ⟨x0, rfl, _⟩ := h; rfl
  · obtain ⟨x0, rfl, h⟩ := h
    have nd : N_cross_nowhere.Nodup := sc_cross_nowhere.nd
    have hG : (A.deeper (envOfC "_cross_nowhere" (defScope st_cross_nowhere) s.heap.objs.size f cdv)).guards = some [] := hG0
    have hu := hu_of hr
    refine ⟨_, (pss_cons (ps_for PassesOwn.never (by rfl) (pi_enum (by rfl) T.b_enumerate (pa_cons (pe_slice (sl_listK (K := K) rfl) (pv 0) (po_some pe_int) po_none) pa_nil)) (pg_tup (by rfl) (pgs_cons (pg_name (i := 1) nd (by rfl) (.inl (by rfl))) (pgs_cons (pg_name (i := 2) nd (by rfl) (.inl (by rfl))) pgs_nil)))
      (pss_cons (ps_while PassesOwn.never (pt_cmpR op_gt (pv 1) (pv 2) (nomark _))
          (pss_one (ps_set (i := 1) nd (by rfl) (.inl (by rfl)) (pe_ix (ix_listK (K := K) rfl) (pv 0) (pv 1) (fun _ _ => rfl)))))
        (pss_one (ps_if (pt_cmpR op_ne (pv 1) (pv 2) (nomark _))
          (pss_one (ps_ret pe_bl))
          pss_nil))))
    (pss_one (ps_ret pe_bl))), ?_⟩
    refine w_start (σ' := [some x0, none, none]) rfl ?_
    obtain ⟨a, ns, rfl, ha, h1, h2, h0, hnn, q1, q2⟩ := h
    have S : Tr [] H0 H0 [] := Tr.refl
    walk_at "w"
    rw [cut_from_int (by omega), show (1 : Int).toNat = 1 from rfl] at S
    obtain ⟨pd, hpd⟩ : ∃ z, z = p := ⟨_, rfl⟩
    rw [← hpd] at S ⊢
    refine ⟨pd, (ns.drop 1).map V.int, rfl, by walk_at "sq", for_it (walk_enum (xs := (ns.drop 1).map V.int)) (fun i σ G => ∃ y1 y2, σ = [some (.ref a), y1, y2] ∧ Log (ns.take (i + 1)) ∧ Tr [] H0 G [(pd, .lst ((ns.drop 1).map V.int))]) ?_ (fun i σ G _ h => ?_) ?_ ?_⟩
    · refine ⟨_, _, rfl, ?_, S⟩
      have e : ns.take 1 = [0] := by
        cases ns with
        | nil => simp at h1
        | cons n ns =>
          simp only [List.head?_cons, Option.some.injEq] at h0
          rw [h0]
          simp
      rw [e]
      exact LT.one.log
    · obtain ⟨y1, y2, _, _, S⟩ := h
      walk_at "sq"
    · clear S
      rintro i x σ G1 G2 hi ⟨y1, y2, rfl, hL, S⟩ ⟨t, y, z, rfl, ht, rfl, e1, e2⟩
      have ey : y = .int (i : Nat) := (Option.some.inj e1).symm
      subst ey
      replace S := S.new (o := .tup [.int (i : Nat), z]) ht
      have e2 : ((ns.drop 1).map V.int)[i]? = some z := e2
      rw [List.getElem?_map] at e2
      obtain ⟨l, hl, rfl⟩ := Option.map_eq_some_iff.mp e2
      rw [List.getElem?_drop, Nat.add_comm] at hl
      have hlen := (List.getElem?_eq_some_iff.mp hl).1
      have hl0 := hnn l (List.mem_of_getElem? hl)
      have hPl : (ns.take (i + 1)).length = i + 1 := by rw [List.length_take]; omega
      have hP0 : ∀ u : Int, 0 ≤ u → u ≤ i → at0 ns u = at0 (ns.take (i + 1)) u := fun u g1 g2 => by
        obtain ⟨n, rfl⟩ : ∃ n : Nat, u = (n : Int) := ⟨u.toNat, by omega⟩
        rw [at0_get (by omega), at0_get (by omega), List.getElem_take]
      have hsn := take_snoc hl
      generalize hP : ns.take (i + 1) = P at *
      refine w_gtup (by walk_at "sqt") rfl ?_
      walk_at "w"
      refine w_while (fun m σ G => ∃ u : Int, σ = [some (.ref a), some (.int u), some (.int l)] ∧ u = (m : Nat) ∧ Allow P u ∧ (∀ v, Allow P v → v ≤ u ∨ l < v) ∧ Tr [] H0 G [(pd, .lst ((ns.drop 1).map V.int))]) i ?_ ?_
      · refine ⟨_, rfl, rfl, ?_, fun v hv => .inl ?_, S.drop⟩
        · have := allow_last (ns := P) (by omega)
          rw [hPl] at this
          rw [show (i : Int) = ((i + 1 : Nat) : Int) - 1 by omega]
          exact this
        · have := hv.2.1
          omega
      · clear S
        rintro m σ G ⟨u, rfl, hum, hua, hup, S⟩
        have hub := hua.2.1
        walk_at "w"
        refine w_ite (fun h3 => ?_) (fun h3 => ?_)
        · obtain ⟨g1, g2, g3⟩ := allow_down hL hua (by omega)
          have g0 := g1.1
          refine ⟨fun σ G => ∃ m', m' < m ∧ ∃ u : Int, σ = [some (.ref a), some (.int u), some (.int l)] ∧ u = (m' : Nat) ∧ Allow P u ∧ (∀ v, Allow P v → v ≤ u ∨ l < v) ∧ Tr [] H0 G [(pd, .lst ((ns.drop 1).map V.int))], fun σ' H' h => h, ?_⟩
          walk_at "w"
          refine w_ixL (by walk_at "sq") (atI_int (by omega) (by omega)) ?_
          walk_at "w"
          rw [hP0 u (by omega) (by omega)]
          refine ⟨(at0 P u).toNat, by omega, _, rfl, by omega, g1, fun v hv => ?_, S⟩
          rcases hup v hv with k | k
          · by_cases k2 : v = u
            · exact .inr (by omega)
            · exact .inl (g3 v hv (by omega))
          · exact .inr k
        · walk_at "w"
          refine w_iteN (fun h4 => ?_) (fun h4 => ?_)
          · walk_at "w"
            refine q2 (fun hLn => ?_) _ (S.sub (by walk_at "sub"))
            have hk := log_take hLn (k := i + 1 + 1) (by omega) (by omega)
            rw [hsn] at hk
            have hb := hk.form.lt (i := i + 1) (by rw [List.length_append, hPl]; simp) (by omega)
            rw [List.getElem_append_right (by omega)] at hb
            simp only [hPl, Nat.sub_self, List.getElem_singleton] at hb
            have hal := (log_snoc_iff hL hl0 (by rw [hPl]; omega) (by omega)).mp hk
            rcases hup l hal with k | k <;> omega
          · subst h4
            walk_at "w"
            refine ⟨_, _, rfl, ?_, S⟩
            rw [hsn]
            exact (log_snoc_iff hL hl0 (by rw [hPl]; omega) (by omega)).mpr hua
    · clear S
      rintro σ G ⟨y1, y2, rfl, hL, S⟩
      walk_at "w"
      rw [List.take_of_length_le (by rw [List.length_map, List.length_drop]; omega)] at hL
      exact q1 hL _ S.drop
theorem okis_log {P : Program} {w : World} {K : PySem.W.Frag} {mg : Str → Option Value} {base : Heap} (T : Txt K mg)
    (G_are_links : OkF P w K mg base CX0 2 "_are_links" ["value"] (sp_are_links K))
    (G_cross_nowhere : OkF P w K mg base CX0 1 "_cross_nowhere" ["links"] (sp_cross_nowhere K)) :
    OkF P w K mg base CX0 3 "is_log" ["value"] (spis_log K) := by
  refine okF0_of T.d_is_log scis_log (fun vs H Q E h => ?_) (fun f cdv A fr s H0 vs Q E hG0 hr h => ?_)
  · obtain ⟨x0, rfl, _⟩ := h; rfl
  · obtain ⟨x0, rfl, h⟩ := h
    have nd : Nis_log.Nodup := scis_log.nd
    have hG : (A.deeper (envOfC "is_log" (defScope stis_log) s.heap.objs.size f cdv)).guards = some [] := hG0
    have hu := hu_of hr
    refine ⟨_, (pss_one (ps_ret (pe_and (pe_callF G_are_links hG (hr.mono (by decide)) (by rfl) pass0 (pa_cons (pv 0) pa_nil)) (pe_and (pe_cmpR op_eq (pe_callB (cr_minK (K := K) rfl rfl) (by rfl) T.b_min (by decide +kernel) (pa_cons (pv 0) pa_nil)) pe_int (nomark _)) (pe_one (pe_callF G_cross_nowhere hG (hr.mono (by decide)) (by rfl) pass0 (pa_cons (pv 0) pa_nil))))))), ?_⟩
    refine w_start (σ' := [some x0]) rfl ?_
    obtain ⟨hx, hi, q1, q2⟩ := h
    have S : Tr [] H0 H0 [] := Tr.refl
    walk_at "w"
    refine ⟨_, rfl, hx, hi, fun G C => ?_⟩
    replace S := S.call C
    walk_at "cl"
    walk_at "w"
    cases e : linksV H0 x0 with
    | false =>
      walk_at "w"
      refine q2 ?_ _ S
      rintro ⟨a, ns, rfl, ha, hL⟩
      rw [linksV_ref ha, hL.form.links] at e
      cases e
    | true =>
      obtain ⟨a, ns, rfl, ha, h1, h2, h0⟩ := linksV_inv e
      have hlv := logV_ints ha
      walk_at "w"
      refine w_minL (ns := ns) (by walk_at "sq") (by omega) fun m hm hle => ?_
      walk_at "w"
      refine w_ite (fun h3 => ?_) (fun h3 => ?_)
      · subst h3
        walk_at "w"
        refine ⟨_, rfl, a, ns, rfl, by walk_at "at", h1, h2, h0, hle, fun hL G C => ?_, fun hL G C => ?_⟩
        · exact q1 (hlv.mpr hL) _ (S.call C)
        · exact q2 (fun z => hL (hlv.mp z)) _ (S.call C)
      · refine q2 (fun z => ?_) _ S
        have hL := hlv.mp z
        obtain ⟨i, hi, e1⟩ := List.mem_iff_getElem.mp hm
        have g1 := (hL.form.nat hi).1
        have g2 := hle 0 (List.mem_of_mem_head? h0)
        omega
theorem okrequire_log {P : Program} {w : World} {K : PySem.W.Frag} {mg : Str → Option Value} {base : Heap} (T : Txt K mg)
    (Gis_log : OkF P w K mg base CX0 3 "is_log" ["value"] (spis_log K)) :
    OkF P w K mg base CX0 4 "require_log" ["value"] (sprequire_log K) := by
  refine okF0_of T.d_require_log screquire_log (fun vs H Q E h => ?_) (fun f cdv A fr s H0 vs Q E hG0 hr h => ?_)
  · obtain ⟨x0, rfl, _⟩ := h; rfl
  · obtain ⟨x0, rfl, h⟩ := h
    have nd : Nrequire_log.Nodup := screquire_log.nd
    have hG : (A.deeper (envOfC "require_log" (defScope strequire_log) s.heap.objs.size f cdv)).guards = some [] := hG0
    have hu := hu_of hr
    refine ⟨_, (pss_one (ps_if (pt_not (pt_val (pe_callF Gis_log hG (hr.mono (by decide)) (by rfl) pass0 (pa_cons (pv 0) pa_nil))))
      (pss_one ps_never)
      pss_nil)), ?_⟩
    refine w_start (σ' := [some x0]) rfl ?_
    obtain ⟨hL, q⟩ := h
    have S : Tr [] H0 H0 [] := Tr.refl
    walk_at "w"
    refine ⟨_, rfl, ?_, ?_, fun _ G C => ?_, fun hn => (hn hL).elim⟩
    · obtain ⟨a, ns, rfl, ha, _⟩ := hL
      exact ⟨_, .lst ha⟩
    · obtain ⟨a, ns, rfl, ha, _⟩ := hL
      intro b xs e hb y hy
      cases e
      rw [ha] at hb
      cases hb
      obtain ⟨n, _, rfl⟩ := List.mem_map.mp hy
      exact ⟨_, .int n⟩
    replace S := S.call C
    walk_at "cl"
    walk_at "w"
    exact q _ S
theorem okleads_down {P : Program} {w : World} {K : PySem.W.Frag} {mg : Str → Option Value} {base : Heap} (T : Txt K mg)
    (Gare_integers : OkF P w K mg base CX0 1 "are_integers" ["values"] (spare_integers K)) :
    OkF P w K mg base CX0 2 "leads_down" ["links", "value"] (spleads_down K) := by
  refine okF0_of T.d_leads_down scleads_down (fun vs H Q E h => ?_) (fun f cdv A fr s H0 vs Q E hG0 hr h => ?_)
  · obtain ⟨x0, x1, rfl, _⟩ := h; rfl
  · obtain ⟨x0, x1, rfl, h⟩ := h
    have nd : Nleads_down.Nodup := scleads_down.nd
    have hG : (A.deeper (envOfC "leads_down" (defScope stleads_down) s.heap.objs.size f cdv)).guards = some [] := hG0
    have hu := hu_of hr
    refine ⟨_, (pss_cons (ps_if (PW.pt (pw_or (pt_not (pt_val (pe_callB (call_isiK1 (K := K) rfl) (by rfl) T.b_isinstance (by decide +kernel) (pa_cons (pv 1) (pa_cons (pe_bltn (v := .ty "list") (by rfl) T.b_list (by decide +kernel) rfl) pa_nil))))) (pw_or (pt_cmpR op_eq (pe_callB (call_lenK (K := K) rfl) (by rfl) T.b_len (by decide +kernel) (pa_cons (pv 1) pa_nil)) pe_int (nomark _)) (pw_or1 (pt_not (pt_val (pe_callF Gare_integers hG (hr.mono (by decide)) (by rfl) pass0 (pa_cons (pv 1) pa_nil))))))))
      (pss_one (ps_ret pe_bl))
      pss_nil)
    (pss_cons (ps_if (pt_not (pt_chain op_le op_lt pe_int (pe_ix (ix_listK (K := K) rfl) (pv 1) pe_int (fun _ _ => rfl)) (pe_callB (call_lenK (K := K) rfl) (by rfl) T.b_len (by decide +kernel) (pa_cons (pv 0) pa_nil))))
      (pss_one (ps_ret pe_bl))
      pss_nil)
    (pss_cons (ps_for PassesOwn.never (by rfl) (pi_zip (by rfl) T.b_zip (pa_cons (pv 1) (pa_cons (pe_slice (sl_listK (K := K) rfl) (pv 1) (po_some pe_int) po_none) pa_nil))) (pg_tup (by rfl) (pgs_cons (pg_name (i := 2) nd (by rfl) (.inl (by rfl))) (pgs_cons (pg_name (i := 3) nd (by rfl) (.inl (by rfl))) pgs_nil)))
      (pss_one (ps_if (PW.pt (pw_or (pt_cmpR op_eq (pv 2) pe_int (nomark _)) (pw_or1 (PW.pt (pw_and (pt_cmpR op_ne (pv 3) (pe_op op_sub (pv 2) pe_int) (nomark _)) (pw_and1 (pt_cmpR op_ne (pv 3) (pe_ix (ix_listK (K := K) rfl) (pv 0) (pv 2) (fun _ _ => rfl)) (nomark _))))))))
          (pss_one (ps_ret pe_bl))
          pss_nil)))
    (pss_one (ps_ret pe_bl))))), ?_⟩
    refine w_start (σ' := [some x0, some x1, none, none]) rfl ?_
    obtain ⟨a, ns, rfl, ha, hF, ⟨n, hy⟩, hit, q1, q2⟩ := h
    have S : Tr [] H0 H0 [] := Tr.refl
    have hz := hF.2.1
    have ht : ((ns.map V.int).length : Int) = ns.length := by simp
    walk_at "w"
    refine w_isList hy ?_
    cases hb : isL H0 x1 with
    | false =>
      walk_at "w"
      exact q2 (chainV_not hb) _ S
    | true =>
      obtain ⟨b, xs, rfl, hx⟩ := isL_ref hb
      obtain ⟨hxl, hty⟩ := hit b xs rfl hx
      have hcv := chainV_ref (ns := ns) hx
      walk_at "w"
      refine w_ite (fun h1 => ?_) (fun h1 => ?_)
      · walk_at "w"
        refine q2 (fun z => ?_) _ S
        obtain ⟨cs, rfl, hc⟩ := hcv.mp z
        rw [List.length_map] at h1
        exact hc.ne (List.length_eq_zero_iff.mp (by omega))
      · walk_at "w"
        refine ⟨_, rfl, b, xs, rfl, by walk_at "at", hxl, hty, fun G C => ?_⟩
        replace S := S.call C
        walk_at "cl"
        walk_at "w"
        cases hall : xs.all isIntV with
        | false =>
          walk_at "w"
          refine q2 (fun z => ?_) _ S
          obtain ⟨cs, rfl, hc⟩ := hcv.mp z
          rw [isIntV_ints] at hall
          cases hall
        | true =>
          obtain ⟨cs, rfl⟩ := ints_allV hall
          rw [List.length_map] at hxl h1
          have hcl : ((cs.map V.int).length : Int) = cs.length := by simp
          have bad : ∀ {G : Hp}, (Ch ns cs → False) → Tr [] H0 G [] → Q (.bl false) G := fun g S => q2 (fun z => by
            obtain ⟨ds, e, hc⟩ := hcv.mp z
            cases map_int_inj e
            exact g hc) _ S
          have hfirst : atI (cs.map V.int) 0 = some (.int (at0 cs 0)) := atI_int (by omega) (by omega)
          have hf0 : cs[0]? = some (at0 cs 0) := at0_n rfl (by omega)
          walk_at "w"
          refine w_ixL (by walk_at "sq") hfirst ?_
          walk_at "w"
          refine w_ite (fun h2 => ?_) (fun h2 => ?_)
          · walk_at "w"
            refine w_iteN (fun h3 => ?_) (fun h3 => ?_)
            · walk_at "w"
              refine bad (fun hc => ?_) S
              have := hc.rg _ (List.mem_of_getElem? hf0)
              omega
            · walk_at "w"
              obtain ⟨pd, hpd⟩ : ∃ z, z = p := ⟨_, rfl⟩
              rw [← hpd] at S ⊢
              rw [cut_from_int (by omega), show (1 : Int).toNat = 1 from rfl] at S
              refine ⟨_, _, cs.map V.int, (cs.drop 1).map V.int, rfl, by walk_at "sq", by walk_at "sq", for_it (walk_zip (xs := cs.map V.int) (ys := (cs.drop 1).map V.int) rfl) (fun j σ G => ∃ y2 y3, σ = [some (.ref a), some (.ref b), y2, y3] ∧ (∀ i x, i ≤ j → cs[i]? = some x → 0 ≤ x ∧ x < ns.length) ∧ (∀ i x y, i < j → cs[i]? = some x → cs[i + 1]? = some y → x ≠ 0 ∧ (y = x - 1 ∨ y = at0 ns x)) ∧ Tr [] H0 G [(pd, .lst ((cs.drop 1).map V.int))]) ?_ ?_ ?_ ?_⟩
              · refine ⟨_, _, rfl, fun i x hi hx => ?_, fun i x y hi => absurd hi (Nat.not_lt_zero _), S.sub (by walk_at "sub")⟩
                obtain rfl : i = 0 := by omega
                rw [hf0] at hx
                cases hx
                omega
              · rintro j σ G _ ⟨y5, y6, _, _, _, S⟩
                exact ⟨by walk_at "sq", by walk_at "sq"⟩
              · clear S
                rintro j x σ G G2 hj ⟨y5, y6, rfl, hrg, hgo, S⟩ ⟨T1, x1, z1, rfl, hT1, rfl, e1, e2⟩
                have e1 : (cs.map V.int)[j]? = some x1 := e1
                have e2 : ((cs.drop 1).map V.int)[j]? = some z1 := e2
                rw [List.getElem?_map] at e1 e2
                obtain ⟨x, hx2, rfl⟩ := Option.map_eq_some_iff.mp e1
                obtain ⟨c, hcj, rfl⟩ := Option.map_eq_some_iff.mp e2
                rw [List.getElem?_drop, Nat.add_comm] at hcj
                have hxm := hrg j x (Nat.le_refl _) hx2
                have hst : Ch ns cs → x ≠ 0 ∧ (c = x - 1 ∨ c = at0 ns x) := fun hc => hc.st _ _ _ hx2 hcj
                replace S := S.new (o := .tup [.int x, .int c]) hT1
                have fin : ∀ {G : Hp}, x ≠ 0 → (c = x - 1 ∨ c = at0 ns x) → Tr [] H0 G [(pd, .lst ((cs.drop 1).map V.int))] → ∃ y2 y3, [some (V.ref a), some (.ref b), some (.int x), some (.int c)] = [some (V.ref a), some (.ref b), y2, y3] ∧ (∀ i x, i ≤ j + 1 → cs[i]? = some x → 0 ≤ x ∧ x < ns.length) ∧
                    (∀ i x y, i < j + 1 → cs[i]? = some x → cs[i + 1]? = some y → x ≠ 0 ∧ (y = x - 1 ∨ y = at0 ns x)) ∧ Tr [] H0 G [(pd, .lst ((cs.drop 1).map V.int))] := by
                  intro G g1 g2 S
                  refine ⟨_, _, rfl, fun i x' hi hx' => ?_, fun i x' y' hi k1 k2 => ?_, S⟩
                  · by_cases k : i = j + 1
                    · subst k
                      rw [hcj] at hx'
                      cases hx'
                      have h7 := at0_lt hF (i := x) (by omega) (by omega)
                      omega
                    · exact hrg i x' (by omega) hx'
                  · by_cases k : i = j
                    · subst k
                      rw [hx2] at k1
                      rw [hcj] at k2
                      cases k1
                      cases k2
                      exact ⟨g1, g2⟩
                    · exact hgo i x' y' (by omega) k1 k2
                refine w_gtup (by walk_at "sqt") rfl ?_
                walk_at "w"
                refine w_ite (fun h5 => ?_) (fun h5 => ?_)
                · walk_at "w"
                  exact bad (fun hc => (hst hc).1 h5) (S.sub (by walk_at "sub"))
                · walk_at "w"
                  refine w_iteN (fun h6 => ?_) (fun h6 => ?_)
                  · walk_at "w"
                    refine w_ixL (by walk_at "sq") (atI_int (by omega) (by omega)) ?_
                    walk_at "w"
                    refine w_iteN (fun h7 => ?_) (fun h7 => ?_)
                    · walk_at "w"
                      exact bad (fun hc => (hst hc).2.elim h6 h7) (S.sub (by walk_at "sub"))
                    · walk_at "w"
                      exact fin h5 (.inr h7) (S.sub (by walk_at "sub"))
                  · walk_at "w"
                    exact fin h5 (.inl h6) (S.sub (by walk_at "sub"))
              · clear S
                rintro σ G ⟨y5, y6, rfl, hrg, hgo, S⟩
                walk_at "w"
                have hm : ∀ i, i < cs.length → i ≤ min (cs.map V.int).length ((cs.drop 1).map V.int).length := fun i hi => by
                  rw [List.length_map, List.length_map, List.length_drop]; omega
                refine q1 (hcv.mpr ⟨cs, rfl, fun z => by rw [z] at h1; exact h1 rfl, fun c hc => ?_, fun i x y g1 g2 => hgo i x y ?_ g1 g2⟩) _ S.drop
                · obtain ⟨i, hi, e⟩ := List.mem_iff_getElem.mp hc
                  exact hrg i c (hm i hi) (by rw [List.getElem?_eq_getElem hi, e])
                · have := (List.getElem?_eq_some_iff.mp g2).1
                  rw [List.length_map, List.length_map, List.length_drop]
                  omega
          · walk_at "w"
            refine bad (fun hc => ?_) S
            have := hc.rg _ (List.mem_of_getElem? hf0)
            omega
theorem ok_joined {P : Program} {w : World} {K : PySem.W.Frag} {mg : Str → Option Value} {base : Heap} (T : Txt K mg) :
    OkF P w K mg base CX0 1 "_joined" ["sign", "numbers"] (sp_joined K) := by
  refine okF0_of T.d__joined sc_joined (fun vs H Q E h => ?_) (fun f cdv A fr s H0 vs Q E hG0 hr h => ?_)
  · obtain ⟨x0, x1, rfl, _⟩ := h; rfl
  · obtain ⟨x0, x1, rfl, h⟩ := h
    have nd : N_joined.Nodup := sc_joined.nd
    have hG : (A.deeper (envOfC "_joined" (defScope st_joined) s.heap.objs.size f cdv)).guards = some [] := hG0
    have hu := hu_of hr
    refine ⟨_, (pss_one (ps_ret (pe_join (pv 0) (pe_lc (own := [("number", 2)]) (g := gName 2) (by rfl) nd (pi_list (pv 1)) (blkOk_by (own := [("number", 2)]) (N := N_joined) (sc := defScope st_joined) (by decide +kernel)) (fun _ _ _ _ _ => (pg_name (i := 2) nd (by rfl) (by first | exact .inl rfl | exact .inr rfl))) (fun _ _ _ _ _ => pts_nil) (fun _ _ _ _ _ => (pe_callTy call_str_int (by rfl) T.b_str (by decide +kernel) (pa_cons (pv 2) pa_nil))))))), ?_⟩
    refine w_start (σ' := [some x0, some x1, none]) rfl ?_
    obtain ⟨y, a, ns, rfl, rfl, hy, ha, hl, hb, q⟩ := h
    have S : Tr [] H0 H0 [] := Tr.refl
    walk_at "w"
    refine w_m1 ?_
    walk_at "w"
    refine ⟨⟨_, rfl⟩, ?_⟩
    walk_at "w"
    refine ⟨_, rfl, ⟨_, .inl (.inl (by walk_at "at"))⟩, fun D hD => lc_list (xs := ns.map V.int) (fun i G => Tr [] H0 G [(D, .lst (((ns.take i).map numS).map V.str))]) ?_ ?_ ?_ ?_⟩
    · rw [List.take_zero]
      exact S.new (o := .lst []) hD
    · intro i G _ S
      walk_at "sq"
    · clear S
      intro i x G hx S
      obtain ⟨z, hz, rfl⟩ := int_of_get hx
      have hi := (List.getElem?_eq_some_iff.mp hz).1
      have hzb := hb z (List.mem_of_getElem? hz)
      walk_at "w"
      refine ⟨rfl, ?_⟩
      walk_at "w"
      refine ⟨z, rfl, PySem.Flt.log2_lt_of (by decide) (Nat.lt_trans (m := 2 ^ 20) (by omega) (by decide +kernel)), ?_⟩
      rw [take_snoc' hz, List.map_append, List.map_append]
      refine w_acc (S.get 0 rfl) (by rw [List.length_map, List.length_map, List.length_take]; omega) ?_
      exact S.putN 0 rfl
    · clear S
      intro G S
      rw [List.length_map, List.take_of_length_le (Nat.le_refl _)] at S
      have h1 := lens_sum ns hb
      refine ⟨y, D, ns.map numS, rfl, rfl, .inl (.inl (.inl (S.get 0 rfl))), by rw [List.length_map, hy]; omega, ?_⟩
      exact q _ S.drop
theorem okshow_chain {P : Program} {w : World} {K : PySem.W.Frag} {mg : Str → Option Value} {base : Heap} (T : Txt K mg)
    (Grequire_log : OkF P w K mg base CX0 4 "require_log" ["value"] (sprequire_log K))
    (Gleads_down : OkF P w K mg base CX0 2 "leads_down" ["links", "value"] (spleads_down K))
    (G_joined : OkF P w K mg base CX0 1 "_joined" ["sign", "numbers"] (sp_joined K)) :
    OkF P w K mg base CX0 5 "show_chain" ["links", "chain"] (spshow_chain K) := by
  refine okF0_of T.d_show_chain scshow_chain (fun vs H Q E h => ?_) (fun f cdv A fr s H0 vs Q E hG0 hr h => ?_)
  · obtain ⟨x0, x1, rfl, _⟩ := h; rfl
  · obtain ⟨x0, x1, rfl, h⟩ := h
    have nd : Nshow_chain.Nodup := scshow_chain.nd
    have hG : (A.deeper (envOfC "show_chain" (defScope stshow_chain) s.heap.objs.size f cdv)).guards = some [] := hG0
    have hu := hu_of hr
    refine ⟨_, (pss_cons (ps_expr (pe_callF Grequire_log hG (hr.mono (by decide)) (by rfl) pass0 (pa_cons (pv 0) pa_nil)))
    (pss_cons (ps_if (pt_not (pt_val (pe_callF Gleads_down hG (hr.mono (by decide)) (by rfl) pass0 (pa_cons (pv 0) (pa_cons (pv 1) pa_nil)))))
      (pss_one ps_never)
      pss_nil)
    (pss_one (ps_ret (pe_callF G_joined hG (hr.mono (by decide)) (by rfl) pass0 (pa_cons pe_str (pa_cons (pv 1) pa_nil))))))), ?_⟩
    refine w_start (σ' := [some x0, some x1]) rfl ?_
    obtain ⟨a, b, ns, cs, rfl, rfl, ha, hb, hL, hC, q⟩ := h
    have S : Tr [] H0 H0 [] := Tr.refl
    have hF := hL.form
    have hz := hF.2.1
    have hcl := hC.len hF
    walk_at "w"
    refine ⟨_, rfl, ⟨a, ns, rfl, by walk_at "at", hL⟩, fun G C => ?_⟩
    replace S := S.call C
    walk_at "cl"
    clear C
    walk_at "w"
    refine ⟨_, _, rfl, a, ns, rfl, by walk_at "at", hF, (ty_ints (by walk_at "at")).1, ty_ints_len (by walk_at "at") (by omega), fun _ G C => ?_, fun hno => (hno (hC.v (by walk_at "at"))).elim⟩
    replace S := S.call C
    walk_at "cl"
    clear C
    walk_at "w"
    refine ⟨_, _, rfl, _, b, cs, rfl, rfl, by decide +kernel, by walk_at "at", by omega, fun n hn => by have := hC.rg n hn; omega, fun G C => ?_⟩
    replace S := S.call C
    walk_at "cl"
    exact q _ S
theorem okshow_log {P : Program} {w : World} {K : PySem.W.Frag} {mg : Str → Option Value} {base : Heap} (T : Txt K mg)
    (Grequire_log : OkF P w K mg base CX0 4 "require_log" ["value"] (sprequire_log K))
    (G_joined : OkF P w K mg base CX0 1 "_joined" ["sign", "numbers"] (sp_joined K)) :
    OkF P w K mg base CX0 5 "show_log" ["links"] (spshow_log K) := by
  refine okF0_of T.d_show_log scshow_log (fun vs H Q E h => ?_) (fun f cdv A fr s H0 vs Q E hG0 hr h => ?_)
  · obtain ⟨x0, rfl, _⟩ := h; rfl
  · obtain ⟨x0, rfl, h⟩ := h
    have nd : Nshow_log.Nodup := scshow_log.nd
    have hG : (A.deeper (envOfC "show_log" (defScope stshow_log) s.heap.objs.size f cdv)).guards = some [] := hG0
    have hu := hu_of hr
    obtain ⟨tkNO_LINKS, hcNO_LINKS⟩ := T.c_NO_LINKS
    refine ⟨_, (pss_cons (ps_expr (pe_callF Grequire_log hG (hr.mono (by decide)) (by rfl) pass0 (pa_cons (pv 0) pa_nil)))
    (pss_one (ps_ret (pe_ifExp (pt_cmpR op_gt (pe_callB (call_lenK (K := K) rfl) (by rfl) T.b_len (by decide +kernel) (pa_cons (pv 0) pa_nil)) pe_int (nomark _)) (pe_callF G_joined hG (hr.mono (by decide)) (by rfl) pass0 (pa_cons pe_str (pa_cons (pe_slice (sl_listK (K := K) rfl) (pv 0) (po_some pe_int) po_none) pa_nil))) (pe_glob (v := .str "-") (by rfl) hcNO_LINKS ⟨_, rfl⟩))))), ?_⟩
    refine w_start (σ' := [some x0]) rfl ?_
    obtain ⟨a, ns, rfl, ha, hL, q⟩ := h
    have S : Tr [] H0 H0 [] := Tr.refl
    have hF := hL.form
    have hz := hF.2.1
    have ht : ((ns.map V.int).length : Int) = ns.length := by simp
    walk_at "w"
    refine ⟨_, rfl, ⟨a, ns, rfl, by walk_at "at", hL⟩, fun G C => ?_⟩
    replace S := S.call C
    walk_at "cl"
    clear C
    walk_at "w"
    rw [ht]
    refine w_ite (fun h1 => ?_) (fun h1 => ?_)
    · walk_at "w"
      rw [cut_from_int (by omega), show (1 : Int).toNat = 1 from rfl] at S
      have hb : ∀ n ∈ ns.drop 1, 0 ≤ n ∧ n < 1000 := fun n hn => by
        obtain ⟨i, hi, e⟩ := List.mem_iff_getElem.mp (List.mem_of_mem_drop hn)
        have := hF.nat hi
        omega
      refine ⟨_, _, rfl, _, p, ns.drop 1, rfl, rfl, by decide +kernel, by walk_at "at", by rw [List.length_drop]; omega, hb, fun G C => ?_⟩
      replace S := S.call C
      walk_at "cl"
      rw [show logS ns = joinS " " (ns.drop 1) by unfold logS; rw [if_pos (by omega)]] at q
      exact q _ S.drop
    · walk_at "w"
      rw [show logS ns = "-" by unfold logS; rw [if_neg (by omega)]] at q
      exact q _ S
theorem oknumber_in {P : Program} {w : World} {K : PySem.W.Frag} {mg : Str → Option Value} {base : Heap} (T : Txt K mg) :
    OkF P w K mg base CX0 1 "number_in" ["word", "digits"] (spnumber_in K) := by
  refine okF0_of T.d_number_in scnumber_in (fun vs H Q E h => ?_) (fun f cdv A fr s H0 vs Q E hG0 hr h => ?_)
  · obtain ⟨x0, x1, rfl, _⟩ := h; rfl
  · obtain ⟨x0, x1, rfl, h⟩ := h
    have nd : Nnumber_in.Nodup := scnumber_in.nd
    have hG : (A.deeper (envOfC "number_in" (defScope stnumber_in) s.heap.objs.size f cdv)).guards = some [] := hG0
    have hu := hu_of hr
    refine ⟨_, (pss_cons (ps_if (PW.pt (pw_or (pt_cmpR op_gt (pe_callB call_len_str (by rfl) T.b_len (by decide +kernel) (pa_cons (pv 0) pa_nil)) (pv 1) (nomark _)) (pw_or (pt_not (pt_val (pe_m0 PySem.F.slot_str_isascii PySem.F.type_str_isascii mt_isascii (pv 0)))) (pw_or1 (pt_not (pt_val (pe_m0 PySem.F.slot_str_isdigit PySem.F.type_str_isdigit mt_isdigit (pv 0))))))))
      (pss_one (ps_ret pe_non))
      pss_nil)
    (pss_cons (ps_set (i := 2) nd (by rfl) (.inl (by rfl)) (pe_callTy call_int_str (by rfl) T.b_int (by decide +kernel) (pa_cons (pv 0) pa_nil)))
    (pss_one (ps_ret (pe_ifExp (pt_cmpR op_eq (pe_callTy call_str_int (by rfl) T.b_str (by decide +kernel) (pa_cons (pv 2) pa_nil)) (pv 0) (nomark _)) (pv 2) pe_non))))), ?_⟩
    refine w_start (σ' := [some x0, some x1, none]) rfl ?_
    obtain ⟨n, rfl, rfl, h0, h1, q⟩ := h
    have S : Tr [] H0 H0 [] := Tr.refl
    have hl := numS_len h0 h1
    walk_at "w"
    refine ⟨_, rfl, Nat.le_trans hl (by decide), ?_⟩
    walk_at "w"
    rw [decide_eq_false (by omega : ¬ (3 : Int) < ((numS n).length : Nat))]
    walk_at "w"
    refine w_m0 ?_
    walk_at "w"
    refine ⟨⟨_, rfl⟩, _, rfl, rfl, trivial, ?_⟩
    rw [numS_ascii h0]
    walk_at "w"
    refine w_m0 ?_
    walk_at "w"
    refine ⟨⟨_, rfl⟩, _, rfl, rfl, trivial, ?_⟩
    rw [numS_digit h0]
    walk_at "w"
    refine ⟨_, n, rfl, numS_int h0 h1, by omega, ?_⟩
    walk_at "w"
    refine ⟨n, rfl, PySem.Flt.log2_lt_of (by decide) (Nat.lt_trans (m := 2 ^ 20) (by omega) (by decide +kernel)), ?_⟩
    rw [show (Str.ofString (toString n)) = numS n from rfl]
    walk_at "w"
    rw [decide_eq_true rfl]
    walk_at "w"
    exact q _ S
theorem ok_numbers_in {P : Program} {w : World} {K : PySem.W.Frag} {mg : Str → Option Value} {base : Heap} (T : Txt K mg)
    (Gnumber_in : OkF P w K mg base CX0 1 "number_in" ["word", "digits"] (spnumber_in K)) :
    OkF P w K mg base CX0 2 "_numbers_in" ["text", "sign"] (sp_numbers_in K) := by
  refine okF0_of T.d__numbers_in sc_numbers_in (fun vs H Q E h => ?_) (fun f cdv A fr s H0 vs Q E hG0 hr h => ?_)
  · obtain ⟨x0, x1, rfl, _⟩ := h; rfl
  · obtain ⟨x0, x1, rfl, h⟩ := h
    have nd : N_numbers_in.Nodup := sc_numbers_in.nd
    have hG : (A.deeper (envOfC "_numbers_in" (defScope st_numbers_in) s.heap.objs.size f cdv)).guards = some [] := hG0
    have hu := hu_of hr
    obtain ⟨tkENTRY_DIGITS, hcENTRY_DIGITS⟩ := T.c_ENTRY_DIGITS
    refine ⟨_, (pss_cons (ps_if (pt_not (pt_val (pe_callB (call_isiK1 (K := K) rfl) (by rfl) T.b_isinstance (by decide +kernel) (pa_cons (pv 0) (pa_cons (pe_bltn (v := .ty "str") (by rfl) T.b_str (by decide +kernel) rfl) pa_nil)))))
      (pss_one ps_never)
      pss_nil)
    (pss_one (ps_ret (pe_lc (own := [("word", 2)]) (g := gName 2) (by rfl) nd (pi_list (pe_split (pv 0) (pv 1))) (blkOk_by (own := [("word", 2)]) (N := N_numbers_in) (sc := defScope st_numbers_in) (by decide +kernel)) (fun _ _ _ _ _ => (pg_name (i := 2) nd (by rfl) (by first | exact .inl rfl | exact .inr rfl))) (fun _ _ _ _ _ => pts_nil) (fun _ _ _ _ _ => (pe_callF Gnumber_in hG (hr.mono (by decide)) (by rfl) pass0 (pa_cons (pv 2) (pa_cons (pe_glob (v := .int 3) (by rfl) hcENTRY_DIGITS ⟨_, rfl⟩) pa_nil)))))))), ?_⟩
    refine w_start (σ' := [some x0, some x1, none]) rfl ?_
    obtain ⟨y, c, ns, rfl, rfl, hy, hk, hc, hne, hl, hb, q⟩ := h
    have S : Tr [] H0 H0 [] := Tr.refl
    have hyl : y.length = 1 := by rw [TL.len_tl, hy]; rfl
    have hjl := joinS_len hyl hb
    walk_at "w"
    refine w_isStr ?_
    walk_at "w"
    refine w_m1 ?_
    walk_at "w"
    refine ⟨⟨_, rfl⟩, ?_⟩
    walk_at "w"
    refine ⟨_, _, rfl, rfl, by rw [hyl]; rfl, Nat.le_trans (m := 1000) (by omega) (by decide), fun ps hps => ?_⟩
    rw [split_nums hy hk hc hne fun n hn => (hb n hn).1]
    replace S := S.new (o := .lst ((ns.map numS).map V.str)) hps
    refine ⟨_, rfl, ⟨_, .inl (.inl (by walk_at "at"))⟩, fun D hD => lc_list (xs := (ns.map numS).map V.str) (fun i G => Tr [] H0 G [(D, .lst ((ns.take i).map V.int)), (ps, .lst ((ns.map numS).map V.str))]) ?_ ?_ ?_ ?_⟩
    · rw [List.take_zero]
      exact S.new (o := .lst []) hD
    · intro i G _ S
      walk_at "sq"
    · clear S
      intro i x G hx S
      obtain ⟨z, hz, rfl⟩ : ∃ z, ns[i]? = some z ∧ x = .str (numS z) := by
        rw [List.map_map, List.getElem?_map] at hx
        obtain ⟨z, h1, h2⟩ := Option.map_eq_some_iff.mp hx
        exact ⟨z, h1, h2.symm⟩
      have hi := (List.getElem?_eq_some_iff.mp hz).1
      have hzb := hb z (List.mem_of_getElem? hz)
      walk_at "w"
      refine ⟨rfl, ?_⟩
      walk_at "w"
      refine ⟨_, _, rfl, z, rfl, rfl, hzb.1, hzb.2, fun G C => ?_⟩
      replace S := S.call C
      walk_at "cl"
      rw [take_snoc' hz]
      exact w_accI S 0 rfl (by rw [List.length_take]; omega) fun G S => S
    · clear S
      intro G S
      rw [List.length_map, List.length_map, List.take_of_length_le (Nat.le_refl _)] at S
      exact q D _ (S.sub (by walk_at "sub"))
theorem okread_chain {P : Program} {w : World} {K : PySem.W.Frag} {mg : Str → Option Value} {base : Heap} (T : Txt K mg)
    (Grequire_log : OkF P w K mg base CX0 4 "require_log" ["value"] (sprequire_log K))
    (G_numbers_in : OkF P w K mg base CX0 2 "_numbers_in" ["text", "sign"] (sp_numbers_in K))
    (Gleads_down : OkF P w K mg base CX0 2 "leads_down" ["links", "value"] (spleads_down K)) :
    OkF P w K mg base CX0 5 "read_chain" ["links", "text"] (spread_chain K) := by
  refine okF0_of T.d_read_chain scread_chain (fun vs H Q E h => ?_) (fun f cdv A fr s H0 vs Q E hG0 hr h => ?_)
  · obtain ⟨x0, x1, rfl, _⟩ := h; rfl
  · obtain ⟨x0, x1, rfl, h⟩ := h
    have nd : Nread_chain.Nodup := scread_chain.nd
    have hG : (A.deeper (envOfC "read_chain" (defScope stread_chain) s.heap.objs.size f cdv)).guards = some [] := hG0
    have hu := hu_of hr
    refine ⟨_, (pss_cons (ps_expr (pe_callF Grequire_log hG (hr.mono (by decide)) (by rfl) pass0 (pa_cons (pv 0) pa_nil)))
    (pss_cons (ps_set (i := 2) nd (by rfl) (.inl (by rfl)) (pe_callF G_numbers_in hG (hr.mono (by decide)) (by rfl) pass0 (pa_cons (pv 1) (pa_cons pe_str pa_nil))))
    (pss_cons (ps_if (pt_not (pt_val (pe_callF Gleads_down hG (hr.mono (by decide)) (by rfl) pass0 (pa_cons (pv 0) (pa_cons (pv 2) pa_nil)))))
      (pss_one ps_never)
      pss_nil)
    (pss_one (ps_ret (pv 2)))))), ?_⟩
    refine w_start (σ' := [some x0, some x1, none]) rfl ?_
    obtain ⟨a, ns, cs, rfl, rfl, ha, hL, hC, q⟩ := h
    have S : Tr [] H0 H0 [] := Tr.refl
    have hF := hL.form
    have hz := hF.2.1
    have hcl := hC.len hF
    walk_at "w"
    refine ⟨_, rfl, ⟨a, ns, rfl, by walk_at "at", hL⟩, fun G C => ?_⟩
    replace S := S.call C
    walk_at "cl"
    clear C
    walk_at "w"
    refine ⟨_, _, rfl, _, 62, cs, rfl, rfl, by decide +kernel, by decide +kernel, by decide, hC.ne, by omega, fun n hn => by have := hC.rg n hn; omega, fun p G C => ?_⟩
    replace S := S.call C
    walk_at "cl"
    clear C
    walk_at "w"
    refine ⟨_, _, rfl, a, ns, rfl, by walk_at "at", hF, (ty_ints (by walk_at "at")).1, ty_ints_len (by walk_at "at") (by omega), fun _ G C => ?_, fun hno => (hno (hC.v (by walk_at "at"))).elim⟩
    replace S := S.call C
    walk_at "cl"
    clear C
    walk_at "w"
    exact q p _ S
theorem okread_log {P : Program} {w : World} {K : PySem.W.Frag} {mg : Str → Option Value} {base : Heap} (T : Txt K mg)
    (G_numbers_in : OkF P w K mg base CX0 2 "_numbers_in" ["text", "sign"] (sp_numbers_in K))
    (Gis_log : OkF P w K mg base CX0 3 "is_log" ["value"] (spis_log K)) :
    OkF P w K mg base CX0 4 "read_log" ["text"] (spread_log K) := by
  refine okF0_of T.d_read_log scread_log (fun vs H Q E h => ?_) (fun f cdv A fr s H0 vs Q E hG0 hr h => ?_)
  · obtain ⟨x0, rfl, _⟩ := h; rfl
  · obtain ⟨x0, rfl, h⟩ := h
    have nd : Nread_log.Nodup := scread_log.nd
    have hG : (A.deeper (envOfC "read_log" (defScope stread_log) s.heap.objs.size f cdv)).guards = some [] := hG0
    have hu := hu_of hr
    obtain ⟨tkNO_LINKS, hcNO_LINKS⟩ := T.c_NO_LINKS
    refine ⟨_, (pss_cons (ps_if (pt_cmpR op_eq (pv 0) (pe_glob (v := .str "-") (by rfl) hcNO_LINKS ⟨_, rfl⟩) (nomark _))
      (pss_one (ps_ret (pe_lst (pa_cons pe_int pa_nil))))
      pss_nil)
    (pss_cons (ps_set (i := 1) nd (by rfl) (.inl (by rfl)) (pe_op op_cat (pe_lst (pa_cons pe_int pa_nil)) (pe_callF G_numbers_in hG (hr.mono (by decide)) (by rfl) pass0 (pa_cons (pv 0) (pa_cons pe_str pa_nil)))))
    (pss_cons (ps_if (pt_not (pt_val (pe_callF Gis_log hG (hr.mono (by decide)) (by rfl) pass0 (pa_cons (pv 1) pa_nil))))
      (pss_one ps_never)
      pss_nil)
    (pss_one (ps_ret (pv 1)))))), ?_⟩
    refine w_start (σ' := [some x0, none]) rfl ?_
    obtain ⟨ns, rfl, hL, q⟩ := h
    have S : Tr [] H0 H0 [] := Tr.refl
    have hF := hL.form
    have hz := hF.2.1
    have hb : ∀ n ∈ ns.drop 1, 0 ≤ n ∧ n < 1000 := fun n hn => by
      obtain ⟨i, hi, e⟩ := List.mem_iff_getElem.mp (List.mem_of_mem_drop hn)
      have := hF.nat hi
      omega
    have h1 := hF.1
    by_cases hl : 1 < ns.length
    · have hne : ns.drop 1 ≠ [] := fun e => by
        have := congrArg List.length e
        rw [List.length_drop] at this
        simp at this
        omega
      rw [show logS ns = joinS " " (ns.drop 1) by unfold logS; rw [if_pos hl]]
      walk_at "w"
      rw [decide_eq_false (joinS_ne hne fun n hn => (hb n hn).1)]
      walk_at "w"
      obtain ⟨pz, hpz⟩ : ∃ z, z = p := ⟨_, rfl⟩
      rw [← hpz] at S ⊢
      refine ⟨_, _, rfl, _, 32, ns.drop 1, rfl, rfl, by decide +kernel, by decide +kernel, by decide, hne, by rw [List.length_drop]; omega, hb, fun pn G C => ?_⟩
      replace S := S.call C
      walk_at "cl"
      clear C
      refine w_cat S (by walk_at "at") (by walk_at "at") (by rw [List.length_map, List.length_drop]; simp; omega) ?_
      clear S
      clear G
      intro pl G S
      have e : [V.int 0] ++ (ns.drop 1).map V.int = ns.map V.int := by
        have h0 := log_head0 hL
        conv => rhs; rw [h0]
        rfl
      rw [e] at S
      walk_at "w"
      refine is_log_ints (by walk_at "at") (fun _ G C => ?_) (fun hno => (hno hL).elim)
      replace S := S.call C
      walk_at "cl"
      clear C
      walk_at "w"
      exact q pl _ (S.sub (by walk_at "sub"))
    · rw [show logS ns = "-" by unfold logS; rw [if_neg hl]]
      walk_at "w"
      rw [decide_eq_true rfl]
      walk_at "w"
      have e : ns = [0] := by
        have := hL.form.at (i := 0) (by omega) (by omega)
        match ns, h1, hl, this with
        | [x], _, _, h => rw [show x = 0 by have : at0 [x] 0 = x := rfl; omega]
        | x :: y :: r, _, h, _ => exact (h (by simp)).elim
      rw [e] at q
      exact q p _ S
theorem ok_law_right {P : Program} {w : World} {K : PySem.W.Frag} {mg : Str → Option Value} {base : Heap} (T : Txt K mg)
    (G_law_log_text : OkF P w K mg base CX0 1 "_law_log_text" ["links"] (sp_law_log_text K))
    (Gshow_chain : OkF P w K mg base CX0 5 "show_chain" ["links", "chain"] (spshow_chain K))
    (Gshow_log : OkF P w K mg base CX0 5 "show_log" ["links"] (spshow_log K))
    (Gread_chain : OkF P w K mg base CX0 5 "read_chain" ["links", "text"] (spread_chain K))
    (Gread_log : OkF P w K mg base CX0 4 "read_log" ["text"] (spread_log K)) :
    OkF P w K mg base CX0 6 "_law_right" ["links", "chain"] (sp_law_right K) := by
  refine okF0_of T.d__law_right sc_law_right (fun vs H Q E h => ?_) (fun f cdv A fr s H0 vs Q E hG0 hr h => ?_)
  · obtain ⟨x0, x1, rfl, _⟩ := h; rfl
  · obtain ⟨x0, x1, rfl, h⟩ := h
    have nd : N_law_right.Nodup := sc_law_right.nd
    have hG : (A.deeper (envOfC "_law_right" (defScope st_law_right) s.heap.objs.size f cdv)).guards = some [] := hG0
    have hu := hu_of hr
    refine ⟨_, (pss_cons (ps_set (i := 2) nd (by rfl) (.inl (by rfl)) (pe_callB (call_reprK (K := K) rfl hG hr) (by rfl) T.b_repr (by decide +kernel) (pa_cons (pe_lst (pa_cons (pv 0) (pa_cons (pv 1) pa_nil))) pa_nil)))
    (pss_cons (ps_set (i := 3) nd (by rfl) (.inl (by rfl)) (pe_lst (pa_cons (pe_callF G_law_log_text hG (hr.mono (by decide)) (by rfl) pass0 (pa_cons (pv 0) pa_nil)) (pa_cons (pe_join pe_str (pe_lc (own := [("entry", 6)]) (g := gName 6) (by rfl) nd (pi_list (pv 1)) (blkOk_by (own := [("entry", 6)]) (N := N_law_right) (sc := defScope st_law_right) (by decide +kernel)) (fun _ _ _ _ _ => (pg_name (i := 6) nd (by rfl) (by first | exact .inl rfl | exact .inr rfl))) (fun _ _ _ _ _ => pts_nil) (fun _ _ _ _ _ => (pe_callTy call_str_int (by rfl) T.b_str (by decide +kernel) (pa_cons (pv 6) pa_nil))))) pa_nil))))
    (pss_cons (ps_for PassesOwn.never (by rfl) (pi_range1 (by rfl) T.b_range (pa_cons pe_int pa_nil)) (pg_name (i := 4) nd (by rfl) (.inl (by rfl)))
      (pss_cons (ps_if (PW.pt (pw_or (pt_cmpR (op_neDK (K := K) rfl hr.units) (pe_lst (pa_cons (pe_callF Gshow_log hG (hr.mono (by decide)) (by rfl) pass0 (pa_cons (pv 0) pa_nil)) (pa_cons (pe_callF Gshow_chain hG (hr.mono (by decide)) (by rfl) pass0 (pa_cons (pv 0) (pa_cons (pv 1) pa_nil))) pa_nil))) (pv 3) (nomark _)) (pw_or1 (pt_cmpR op_ne (pe_callB (call_reprK (K := K) rfl hG hr) (by rfl) T.b_repr (by decide +kernel) (pa_cons (pe_lst (pa_cons (pv 0) (pa_cons (pv 1) pa_nil))) pa_nil)) (pv 2) (nomark _)))))
          (pss_one (ps_ret pe_bl))
          pss_nil)
        (pss_cons (ps_set (i := 5) nd (by rfl) (.inl (by rfl)) (pe_lst (pa_cons (pe_callF Gread_log hG (hr.mono (by decide)) (by rfl) pass0 (pa_cons (pe_ix (ix_listK (K := K) rfl) (pv 3) pe_int (fun _ _ => rfl)) pa_nil)) (pa_cons (pe_callF Gread_chain hG (hr.mono (by decide)) (by rfl) pass0 (pa_cons (pv 0) (pa_cons (pe_ix (ix_listK (K := K) rfl) (pv 3) pe_int (fun _ _ => rfl)) pa_nil))) pa_nil))))
        (pss_cons (ps_if (pt_cmpR op_ne (pe_callB (call_reprK (K := K) rfl hG hr) (by rfl) T.b_repr (by decide +kernel) (pa_cons (pv 5) pa_nil)) (pv 2) (nomark _))
          (pss_one (ps_ret pe_bl))
          pss_nil)
        (pss_cons (ps_expr (pe_bm PySem.F.plainAttrs_list PySem.F.slot_list_append PySem.F.type_list_append mt_append (pe_ix (ix_listK (K := K) rfl) (pv 5) pe_int (fun _ _ => rfl)) (pa_cons pe_int pa_nil)))
        (pss_cons (ps_expr (pe_bm0 PySem.F.plainAttrs_list PySem.F.slot_list_reverse PySem.F.type_list_reverse mt_reverse (pe_ix (ix_listK (K := K) rfl) (pv 5) pe_int (fun _ _ => rfl))))
        (pss_one (ps_expr (pe_bm PySem.F.plainAttrs_list PySem.F.slot_list_append PySem.F.type_list_append mt_append (pe_ix (ix_listK (K := K) rfl) (pv 5) pe_int (fun _ _ => rfl)) (pa_cons (pe_un un_neg pe_int) pa_nil))))))))))
    (pss_one (ps_ret (pe_cmpR op_eq (pe_callB (call_reprK (K := K) rfl hG hr) (by rfl) T.b_repr (by decide +kernel) (pa_cons (pe_lst (pa_cons (pv 0) (pa_cons (pv 1) pa_nil))) pa_nil)) (pv 2) (nomark _))))))), ?_⟩
    refine w_start (σ' := [some x0, some x1, none, none, none, none, none]) rfl ?_
    obtain ⟨a, b, ns, cs, rfl, rfl, ha, hb, hL, hC, q⟩ := h
    have S : Tr [] H0 H0 [] := Tr.refl
    have hF := hL.form
    have hz := hF.2.1
    have hcl := hC.len hF
    have hsm : ∀ n ∈ ns, n.natAbs < 10 ^ 100 := fun n hn => Nat.lt_trans (hF.small n hn) (by decide)
    have hsc : ∀ n ∈ cs, n.natAbs < 10 ^ 100 := fun n hn => Nat.lt_trans (m := 10 ^ 12) (by have := hC.rg n hn; omega) (by decide)
    walk_at "w"
    refine w_repr2G (by walk_at "sq") (by walk_at "sq") (by walk_at "sq") hsm hsc (by omega) (by omega) ?_
    replace S := S.drop
    walk_at "w"
    refine ⟨_, rfl, a, ns, rfl, by walk_at "at", hL, fun G C => ?_⟩
    replace S := S.call C
    walk_at "cl"
    clear C
    walk_at "w"
    refine w_m1 ?_
    walk_at "w"
    refine ⟨⟨_, rfl⟩, ?_⟩
    walk_at "w"
    have hb2 : ∀ n ∈ cs, 0 ≤ n ∧ n < 1000 := fun n hn => by have := hC.rg n hn; omega
    refine ⟨_, rfl, ⟨_, .inl (.inl (by walk_at "at"))⟩, fun D hD => lc_list (xs := cs.map V.int) (fun i G => Tr [] H0 G [(D, .lst (((cs.take i).map numS).map V.str))]) ?_ ?_ ?_ ?_⟩
    · rw [List.take_zero]
      exact S.new (o := .lst []) hD
    · intro i G _ S
      walk_at "sq"
    · clear S
      intro i x G hx S
      obtain ⟨z, hz, rfl⟩ := int_of_get hx
      have hi := (List.getElem?_eq_some_iff.mp hz).1
      have hzb := hb2 z (List.mem_of_getElem? hz)
      walk_at "w"
      refine ⟨rfl, ?_⟩
      walk_at "w"
      refine ⟨z, rfl, PySem.Flt.log2_lt_of (by decide) (Nat.lt_trans (m := 2 ^ 20) (by omega) (by decide +kernel)), ?_⟩
      rw [take_snoc' hz, List.map_append, List.map_append]
      refine w_acc (S.get 0 rfl) (by rw [List.length_map, List.length_map, List.length_take]; omega) ?_
      exact S.putN 0 rfl
    clear S
    intro G S
    rw [List.length_map, List.take_of_length_le (Nat.le_refl _)] at S
    have hsum := lens_sum cs hb2
    refine ⟨_, D, cs.map numS, rfl, rfl, .inl (.inl (.inl (S.get 0 rfl))), by rw [List.length_map]; show _ + cs.length * 1 ≤ _; omega, ?_⟩
    replace S := S.drop
    rw [show Txt.join (Str.ofString ">") (cs.map numS) = joinS ">" cs from rfl]
    walk_at "w"
    have ok1 := logS_ok hF
    have ok2 : PyData.strOk (joinS ">" cs) = true := joinS_ok (by decide +kernel) fun n hn => (hb2 n hn).1
    obtain ⟨pt, hpt⟩ : ∃ z, z = p := ⟨_, rfl⟩
    rw [← hpt] at S ⊢
    refine ⟨_, rfl, by omega, by omega, for_range (lo := 0) (n := 2) (fun i σ G => ∃ y4 y5 y6, σ = [some (.ref a), some (.ref b), some (.str (PyData.shown (.list [.list (ns.map PyData.int), .list (cs.map PyData.int)]))), some (.ref pt), y4, y5, y6] ∧ Tr [] H0 G [(pt, .lst [.str (logS ns), .str (joinS ">" cs)])]) ?_ ?_ ?_⟩
    · exact ⟨_, _, _, rfl, S⟩
    · clear S
      rintro i σ G hi ⟨y4, y5, y6, rfl, S⟩
      walk_at "w"
      refine ⟨_, rfl, a, ns, rfl, by walk_at "at", hL, fun G C => ?_⟩
      replace S := S.call C
      walk_at "cl"
      clear C
      walk_at "w"
      refine ⟨_, _, rfl, a, b, ns, cs, rfl, rfl, by walk_at "at", by walk_at "at", hL, hC, fun G C => ?_⟩
      replace S := S.call C
      walk_at "cl"
      clear C
      walk_at "w"
      refine w_neS2 (by walk_at "sq") (by walk_at "sq") ok1 ok2 ?_
      replace S := S.drop
      walk_at "w"
      refine w_repr2G (by walk_at "sq") (by walk_at "sq") (by walk_at "sq") hsm hsc (by omega) (by omega) ?_
      replace S := S.drop
      walk_at "w"
      rw [decide_eq_true rfl]
      walk_at "w"
      refine ⟨_, rfl, ns, rfl, hL, fun r1 G C => ?_⟩
      replace S := S.call C
      walk_at "cl"
      clear C
      walk_at "w"
      refine ⟨_, _, rfl, a, ns, cs, rfl, rfl, by walk_at "at", hL, hC, fun r2 G C => ?_⟩
      replace S := S.call C
      walk_at "cl"
      clear C
      walk_at "w"
      refine w_repr2G (by walk_at "sq") (by walk_at "sq") (by walk_at "sq") hsm hsc (by omega) (by omega) ?_
      walk_at "w"
      rw [decide_eq_true rfl]
      walk_at "w"
      refine w_app S 2 rfl (by rw [List.length_map]; omega) ?_
      clear S
      intro G S
      walk_at "cl"
      walk_at "w"
      refine w_revM S 1 rfl fun G S => ?_
      walk_at "cl"
      walk_at "w"
      refine w_app S 1 rfl (by rw [List.length_reverse, List.length_map]; omega) ?_
      clear S
      intro G S
      walk_at "cl"
      walk_at "w"
      exact ⟨_, _, _, rfl, S.drop.drop.drop⟩
    clear S
    rintro σ G ⟨y4, y5, y6, rfl, S⟩
    walk_at "w"
    refine w_repr2G (by walk_at "sq") (by walk_at "sq") (by walk_at "sq") hsm hsc (by omega) (by omega) ?_
    walk_at "w"
    rw [decide_eq_true rfl]
    exact q _ S.drop.drop
theorem oklaw {P : Program} {w : World} {K : PySem.W.Frag} {mg : Str → Option Value} {base : Heap} (T : Txt K mg)
    (G_law_reel : OkF P w K mg base CX0 1 "_law_reel" ["script", "k"] (sp_law_reel K))
    (G_law_turn : OkF P w K mg base CX0 1 "_law_turn" ["reel", "size"] (sp_law_turn K))
    (G_law_grown : OkF P w K mg base CX0 2 "_law_grown" ["reel", "size"] (sp_law_grown K))
    (G_law_chain : OkF P w K mg base CX0 2 "_law_chain" ["reel", "links", "most"] (sp_law_chain K))
    (G_law_right : OkF P w K mg base CX0 6 "_law_right" ["links", "chain"] (sp_law_right K))
    (Gread_log : OkF P w K mg base CX0 4 "read_log" ["text"] (spread_log K))
    (Gread_chain : OkF P w K mg base CX0 5 "read_chain" ["links", "text"] (spread_chain K)) :
    OkF P w K mg base CX0 7 "law" ["script"] (splaw K) := by
  refine okF0_of T.d_law sclaw (fun vs H Q E h => ?_) (fun f cdv A fr s H0 vs Q E hG0 hr h => ?_)
  · obtain ⟨x0, rfl, _⟩ := h; rfl
  · obtain ⟨x0, rfl, h⟩ := h
    have nd : Nlaw.Nodup := sclaw.nd
    have hG : (A.deeper (envOfC "law" (defScope stlaw) s.heap.objs.size f cdv)).guards = some [] := hG0
    have hu := hu_of hr
    refine ⟨_, (pss_cons (ps_for PassesOwn.never (by rfl) (pi_range1 (by rfl) T.b_range (pa_cons (pe_callB (call_max2 rfl) (by rfl) T.b_max (by decide +kernel) (pa_cons pe_int (pa_cons (pe_callB (call_min2 rfl) (by rfl) T.b_min (by decide +kernel) (pa_cons pe_int (pa_cons (pe_op op_add (pe_callB (call_lenK (K := K) rfl) (by rfl) T.b_len (by decide +kernel) (pa_cons (pv 0) pa_nil)) pe_int) pa_nil))) pa_nil))) pa_nil)) (pg_name (i := 1) nd (by rfl) (.inl (by rfl)))
      (pss_cons (ps_set (i := 2) nd (by rfl) (.inl (by rfl)) (pe_callF G_law_reel hG (hr.mono (by decide)) (by rfl) pass0 (pa_cons (pv 0) (pa_cons (pv 1) pa_nil))))
        (pss_one (ps_for PassesOwn.never (by rfl) (pi_range1 (by rfl) T.b_range (pa_cons pe_int pa_nil)) (pg_name (i := 3) nd (by rfl) (.inl (by rfl)))
          (pss_cons (ps_set (i := 4) nd (by rfl) (.inr (by rfl)) (pe_op op_add pe_int (pe_callF G_law_turn hG (hr.mono (by decide)) (by rfl) pass0 (pa_cons (pv 2) (pa_cons (pe_ix (ix_listK (K := K) rfl) (pe_lst (pa_cons pe_int (pa_cons pe_int (pa_cons (pe_ix (ix_listK (K := K) rfl) (pe_lst (pa_cons pe_int (pa_cons pe_int pa_nil))) (pe_callTy call_int1 (by rfl) T.b_int (by decide +kernel) (pa_cons (pe_cmpR op_eq (pv 1) pe_int (nomark _)) pa_nil)) (fun _ _ => rfl)) pa_nil)))) (pe_callF G_law_turn hG (hr.mono (by decide)) (by rfl) pass0 (pa_cons (pv 2) (pa_cons pe_int pa_nil))) (fun _ _ => rfl)) pa_nil)))))
            (pss_cons (ps_set (i := 5) nd (by rfl) (.inl (by rfl)) (pe_callF G_law_grown hG (hr.mono (by decide)) (by rfl) pass0 (pa_cons (pv 2) (pa_cons (pv 4) pa_nil))))
            (pss_cons (ps_set (i := 6) nd (by rfl) (.inl (by rfl)) (pe_callF G_law_chain hG (hr.mono (by decide)) (by rfl) pass0 (pa_cons (pv 2) (pa_cons (pv 5) (pa_cons (pe_op op_add pe_int (pv 4)) pa_nil)))))
            (pss_cons (ps_if (pt_not (pt_val (pe_callF G_law_right hG (hr.mono (by decide)) (by rfl) pass0 (pa_cons (pv 5) (pa_cons (pv 6) pa_nil)))))
              (pss_one (ps_ret pe_bl))
              pss_nil)
            (pss_one (ps_if (pt_cmpR op_gt (pv 4) pe_int (nomark _))
              (pss_cons (ps_expr (pe_bm0 PySem.F.plainAttrs_list PySem.F.slot_list_pop PySem.F.type_list_pop mt_pop (pv 5)))
                (pss_cons (ps_asg (pe_lc (own := [("entry", 7)]) (g := gName 7) (by rfl) nd (pi_list (pv 6)) (blkOk_by (own := [("entry", 7)]) (N := Nlaw) (sc := defScope stlaw) (by decide +kernel)) (fun _ _ _ _ _ => (pg_name (i := 7) nd (by rfl) (by first | exact .inl rfl | exact .inr rfl))) (fun _ _ _ _ _ => (pts_one (pt_cmpR op_lt (pv 7) (pe_op op_sub (pv 4) pe_int) (nomark _)))) (fun _ _ _ _ _ => (pv 7))) (pg_all (pv 6)))
                (pss_cons (ps_set (i := 6) nd (by rfl) (.inl (by rfl)) (pe_ifExp (pt_cmpR (op_neDK (K := K) rfl hr.units) (pv 6) (pe_lst pa_nil) (nomark _)) (pv 6) (pe_lst (pa_cons pe_int pa_nil))))
                (pss_one (ps_if (pt_not (pt_val (pe_callF G_law_right hG (hr.mono (by decide)) (by rfl) pass0 (pa_cons (pv 5) (pa_cons (pv 6) pa_nil)))))
                  (pss_one (ps_ret pe_bl))
                  pss_nil)))))
              pss_nil))))))))))
    (pss_one (ps_ret (pe_and (pe_cmpR (op_eqDK (K := K) rfl hr.units) (pe_callF Gread_log hG (hr.mono (by decide)) (by rfl) pass0 (pa_cons pe_str pa_nil)) (pe_lst (pa_cons pe_int pa_nil)) (nomark _)) (pe_and (pe_cmpR (op_eqDK (K := K) rfl hr.units) (pe_callF Gread_log hG (hr.mono (by decide)) (by rfl) pass0 (pa_cons pe_str pa_nil)) (pe_lst (pa_cons pe_int (pa_cons pe_int pa_nil))) (nomark _)) (pe_one (pe_cmpR (op_eqDK (K := K) rfl hr.units) (pe_callF Gread_chain hG (hr.mono (by decide)) (by rfl) pass0 (pa_cons (pe_lst (pa_cons pe_int pa_nil)) (pa_cons pe_str pa_nil))) (pe_lst (pa_cons pe_int pa_nil)) (nomark _)))))))), ?_⟩
    refine w_start (σ' := [some x0, none, none, none, none, none, none, none]) rfl ?_
    obtain ⟨a, ns, rfl, hs, hl, q⟩ := h
    have S : Tr [] H0 H0 [] := Tr.refl
    have ht : ((ns.map V.int).length : Int) = ns.length := by simp
    walk_at "w"
    refine ⟨_, rfl, by omega, by omega, for_range (lo := 0) (fun i σ G => ∃ y1 y2 y3 y4 y5 y6 y7, σ = [some (.ref a), y1, y2, y3, y4, y5, y6, y7] ∧ Tr [] H0 G []) ?_ ?_ ?_⟩
    · exact ⟨_, _, _, _, _, _, _, rfl, S⟩
    · clear S
      rintro i σ G hi ⟨y1, y2, y3, y4, y5, y6, y7, rfl, S⟩
      walk_at "w"
      refine ⟨_, _, rfl, a, ns, _, rfl, rfl, by omega, by omega, by walk_at "sq", fun v ov G hvo C => ?_⟩
      replace S := S.call C
      walk_at "cl"
      clear C
      walk_at "w"
      refine ⟨_, rfl, by omega, by omega, for_range (lo := 0) (n := 4) (fun t σ G => ∃ ov y3 y4 y5 y6 y7, σ = [some (.ref a), some (.int (0 + i)), some (.ref v), y3, y4, y5, y6, y7] ∧ ReelO (t * 10000) ov ∧ Tr [] H0 G [(v, ov)]) ?_ ?_ ?_⟩
      · exact ⟨_, _, _, _, _, _, rfl, hvo.le (by omega), S⟩
      · clear S hvo
        rintro t σ G hti ⟨ov, y3, y4, y5, y6, y7, rfl, hvo, S⟩
        walk_at "w"
        obtain ⟨u, hu⟩ : ∃ u : Int, u = (if decide ((0 : Int) + i = 0) = true then 1 else 0) := ⟨_, rfl⟩
        rw [← hu]
        have hu2 : u = 0 ∨ u = 1 := by split at hu <;> omega
        have ha := atI_int (ns := [20, 150]) (i := u) (by omega) (by simp; omega)
        have hm := at0_mem (ns := [20, 150]) (i := u) (by omega) (by simp; omega)
        refine w_ixL (by walk_at "sq") ha ?_
        generalize at0 [20, 150] u = z at *
        walk_at "w"
        walk_at "drip"
        intro d hd0 hd1
        have ha3 := atI_int (ns := [4, 20, z]) (i := d) (by omega) (by simp; omega)
        have hm3 := at0_mem (ns := [4, 20, z]) (i := d) (by omega) (by simp; omega)
        refine w_ixL (by walk_at "sq") ha3 ?_
        generalize at0 [4, 20, z] d = z2 at *
        have hz2 : 4 ≤ z2 ∧ z2 ≤ 150 := by
          simp only [List.mem_cons, List.not_mem_nil, or_false] at hm hm3
          omega
        replace S : Tr [] H0 G [(v, ov)] := S.sub (by walk_at "sub")
        walk_at "w"
        walk_at "drip"
        intro d2 hd20 hd21
        walk_at "w"
        refine ⟨_, _, rfl, v, ov, _, 1 + d2, rfl, rfl, by omega, by omega, by walk_at "at", hvo, by omega, fun pl ls ov2 G hL hLl hvo C => ?_⟩
        replace S := S.call1 0 rfl C
        walk_at "cl"
        clear C
        have hF := hL.form
        walk_at "w"
        refine ⟨_, _, _, rfl, v, pl, ov2, ls, _, 1 + (1 + d2), rfl, rfl, rfl, by omega, by omega, by walk_at "at", hvo, by omega, S.ne 0 1 (by decide) rfl rfl, by walk_at "at", hL, fun pc cs ov3 G hC hvo C => ?_⟩
        replace S := S.call1 1 rfl C
        walk_at "cl"
        clear C
        have hcl := hC.len hF
        walk_at "w"
        refine ⟨_, _, rfl, pl, pc, ls, cs, rfl, rfl, by walk_at "at", by walk_at "at", hL, hC, fun G C => ?_⟩
        replace S := S.call C
        walk_at "cl"
        clear C
        walk_at "w"
        refine w_ite (fun k1 => ?_) (fun k1 => ?_)
        · obtain ⟨ks, x, hks⟩ : ∃ ks x, ls = ks ++ [x] := by
            have h0 : ls ≠ [] := fun e => by rw [e] at hLl; simp at hLl; omega
            exact ⟨ls.dropLast, ls.getLast h0, (List.dropLast_concat_getLast h0).symm⟩
          have hkl : ks.length + 1 = ls.length := by rw [hks]; simp
          have hkt : ls.take ks.length = ks := by rw [hks, List.take_left']; rfl
          have hK : Log ks := by
            have := hL.take (n := ks.length) (by omega) (by omega)
            rwa [hkt] at this
          have hmap : ls.map V.int = ks.map V.int ++ [V.int x] := by rw [hks, List.map_append]; rfl
          rw [hmap] at S
          walk_at "w"
          refine w_pop S 1 rfl ?_
          clear S
          intro G S
          walk_at "cl"
          walk_at "w"
          have hN : (1 : Int) + d2 - 1 = (ks.length : Nat) := by omega
          refine ⟨pc, rfl, ⟨_, .inl (.inl (S.get 0 rfl))⟩, fun D hD => lc_list (xs := cs.map V.int) (fun i G => Tr [] H0 G [(D, .lst (((cs.take i).filter fun e => decide (e < (ks.length : Int))).map V.int)), (pc, .lst (cs.map V.int)), (pl, .lst (ks.map V.int)), (v, ov3)]) ?_ ?_ ?_ ?_⟩
          · simp only [List.take_zero, List.filter_nil, List.map_nil]
            exact S.new (o := .lst []) hD
          · intro i G _ S
            exact .inl (.inl (S.get 1 rfl))
          · clear S
            intro i x G hx S
            obtain ⟨z, hz, rfl⟩ := int_of_get hx
            have hjl := (List.getElem?_eq_some_iff.mp hz).1
            walk_at "w"
            refine ⟨rfl, ?_⟩
            walk_at "w"
            rw [hN]
            refine w_ite (fun h4 => ?_) (fun h4 => ?_)
            · walk_at "w"
              rw [take_filt_yes hz (decide_eq_true h4)]
              exact w_accI S 0 rfl (by have := take_filt_len (ls := cs) (p := fun e => decide (e < (ks.length : Int))) (j := i); omega) fun G S => S
            · walk_at "w"
              rw [take_filt_no hz (decide_eq_false h4)]
              exact S
          clear S
          intro G S
          rw [List.length_map, List.take_of_length_le (Nat.le_refl _)] at S
          have hcut := fun hne => hC.cut (n := ks.length) hF (by omega) hne
          rw [hkt] at hcut
          have hfl : (cs.filter fun e => decide (e < (ks.length : Int))).length ≤ cs.length := List.length_filter_le ..
          generalize cs.filter (fun e => decide (e < (ks.length : Int))) = ds at *
          walk_at "w"
          intro sl hsl
          replace S := S.new (o := SlO sl) hsl
          refine w_setW S 2 rfl (S.get 0 rfl) (S.get 1 rfl) (S.ne 2 1 (by decide) rfl rfl) (by rw [List.length_map, List.length_map]; omega) fun G S => ?_
          walk_at "cl"
          replace S := S.drop.drop
          walk_at "w"
          refine w_neL (ns := ds) (ms := []) (by walk_at "sq") (by walk_at "sq") ?_
          replace S := S.drop
          walk_at "w"
          by_cases k2 : ds = []
          · rw [decide_eq_true k2]
            walk_at "w"
            refine ⟨_, _, rfl, pl, p, ks, [0], rfl, rfl, by walk_at "at", by walk_at "at", hK, Ch.one (by omega) (by have := hK.form.1; omega), fun G C => ?_⟩
            replace S := S.call C
            walk_at "cl"
            clear C
            walk_at "w"
            exact ⟨_, _, _, _, _, _, rfl, hvo.le (by omega), S.drop.drop.drop⟩
          · rw [decide_eq_false k2]
            walk_at "w"
            refine ⟨_, _, rfl, pl, pc, ks, ds, rfl, rfl, by walk_at "at", by walk_at "at", hK, hcut k2, fun G C => ?_⟩
            replace S := S.call C
            walk_at "cl"
            clear C
            walk_at "w"
            exact ⟨_, _, _, _, _, _, rfl, hvo.le (by omega), S.drop.drop⟩
        · walk_at "w"
          exact ⟨_, _, _, _, _, _, rfl, hvo.le (by omega), S.drop.drop⟩
      · clear S hvo
        rintro σ G ⟨ov, y3, y4, y5, y6, y7, rfl, hvo, S⟩
        exact ⟨_, _, _, _, _, _, _, rfl, S.drop⟩
    clear S
    rintro σ G ⟨y1, y2, y3, y4, y5, y6, y7, rfl, S⟩
    walk_at "w"
    refine ⟨_, rfl, [0], by decide +kernel, LT.one.log, fun p1 G C => ?_⟩
    replace S := S.call C
    walk_at "cl"
    clear C
    walk_at "w"
    refine w_eqL (ns := [0]) (ms := [0]) (by walk_at "sq") (by walk_at "sq") ?_
    rw [decide_eq_true rfl]
    replace S : Tr [] H0 G [] := S.sub (by walk_at "sub")
    walk_at "w"
    refine ⟨_, rfl, [0, 0], by decide +kernel, ⟨form_known (by decide), least_none (by decide)⟩, fun p1 G C => ?_⟩
    replace S := S.call C
    walk_at "cl"
    clear C
    walk_at "w"
    refine w_eqL (ns := [0, 0]) (ms := [0, 0]) (by walk_at "sq") (by walk_at "sq") ?_
    rw [decide_eq_true rfl]
    replace S : Tr [] H0 G [] := S.sub (by walk_at "sub")
    walk_at "w"
    refine ⟨_, _, rfl, p, [0], [0], rfl, by decide +kernel, by walk_at "at", LT.one.log, Ch.one (by omega) (by simp), fun p1 G C => ?_⟩
    replace S := S.call C
    walk_at "cl"
    clear C
    walk_at "w"
    refine w_eqL (ns := [0]) (ms := [0]) (by walk_at "sq") (by walk_at "sq") ?_
    rw [decide_eq_true rfl]
    exact q _
theorem all_mk {w : World} {K : PySem.W.Frag} {h : Heap} {mg : Str → Option Value} (X : K.In h) (G : h.Ns mainGlobals mg)
    {f0 : Addr} {oc0 kV0 dc0 pm0 cd0 ct0 : Value} {od0 an0 : Option Addr} {sl0 : Array (Option Value)} {f1 : Addr} {oc1 kV1 dc1 pm1 cd1 ct1 : Value} {od1 an1 : Option Addr} {sl1 : Array (Option Value)} {f2 : Addr} {oc2 kV2 dc2 pm2 cd2 ct2 : Value} {od2 an2 : Option Addr} {sl2 : Array (Option Value)} {f3 : Addr} {oc3 kV3 dc3 pm3 cd3 ct3 : Value} {od3 an3 : Option Addr} {sl3 : Array (Option Value)} {f4 : Addr} {oc4 kV4 dc4 pm4 cd4 ct4 : Value} {od4 an4 : Option Addr} {sl4 : Array (Option Value)} {f5 : Addr} {oc5 kV5 dc5 pm5 cd5 ct5 : Value} {od5 an5 : Option Addr} {sl5 : Array (Option Value)} {f6 : Addr} {oc6 kV6 dc6 pm6 cd6 ct6 : Value} {od6 an6 : Option Addr} {sl6 : Array (Option Value)} {f7 : Addr} {oc7 kV7 dc7 pm7 cd7 ct7 : Value} {od7 an7 : Option Addr} {sl7 : Array (Option Value)} {f8 : Addr} {oc8 kV8 dc8 pm8 cd8 ct8 : Value} {od8 an8 : Option Addr} {sl8 : Array (Option Value)} {f9 : Addr} {oc9 kV9 dc9 pm9 cd9 ct9 : Value} {od9 an9 : Option Addr} {sl9 : Array (Option Value)} {f10 : Addr} {oc10 kV10 dc10 pm10 cd10 ct10 : Value} {od10 an10 : Option Addr} {sl10 : Array (Option Value)} {f11 : Addr} {oc11 kV11 dc11 pm11 cd11 ct11 : Value} {od11 an11 : Option Addr} {sl11 : Array (Option Value)} {f12 : Addr} {oc12 kV12 dc12 pm12 cd12 ct12 : Value} {od12 an12 : Option Addr} {sl12 : Array (Option Value)} {f13 : Addr} {oc13 kV13 dc13 pm13 cd13 ct13 : Value} {od13 an13 : Option Addr} {sl13 : Array (Option Value)} {f14 : Addr} {oc14 kV14 dc14 pm14 cd14 ct14 : Value} {od14 an14 : Option Addr} {sl14 : Array (Option Value)} {f15 : Addr} {oc15 kV15 dc15 pm15 cd15 ct15 : Value} {od15 an15 : Option Addr} {sl15 : Array (Option Value)} {f16 : Addr} {oc16 kV16 dc16 pm16 cd16 ct16 : Value} {od16 an16 : Option Addr} {sl16 : Array (Option Value)} {f17 : Addr} {oc17 kV17 dc17 pm17 cd17 ct17 : Value} {od17 an17 : Option Addr} {sl17 : Array (Option Value)} {f18 : Addr} {oc18 kV18 dc18 pm18 cd18 ct18 : Value} {od18 an18 : Option Addr} {sl18 : Array (Option Value)} {f19 : Addr} {oc19 kV19 dc19 pm19 cd19 ct19 : Value} {od19 an19 : Option Addr} {sl19 : Array (Option Value)} {tk0 : Tok} {tk1 : Tok} {tk2 : Tok}
    (a0 : PySem.W.nsIn K mainGlobals "_law_reel" = some (some (.ref f0)))
    (l0 : K.lookup f0 = some ⟨oc0, od0, .func (PySem.W.fnOf "_law_reel" "_law_reel" (defArgs st_law_reel) (defBody st_law_reel) (defScope st_law_reel) .none kV0 dc0 pm0 an0 cd0 ct0), sl0⟩)
    (c0 : PySem.W.codeIn K cd0 "_law_reel" = true)
    (k0 : PySem.W.keepIn K (.ref f0) = true)
    (a1 : PySem.W.nsIn K mainGlobals "_law_turn" = some (some (.ref f1)))
    (l1 : K.lookup f1 = some ⟨oc1, od1, .func (PySem.W.fnOf "_law_turn" "_law_turn" (defArgs st_law_turn) (defBody st_law_turn) (defScope st_law_turn) .none kV1 dc1 pm1 an1 cd1 ct1), sl1⟩)
    (c1 : PySem.W.codeIn K cd1 "_law_turn" = true)
    (k1 : PySem.W.keepIn K (.ref f1) = true)
    (a2 : PySem.W.nsIn K mainGlobals "_law_grown" = some (some (.ref f2)))
    (l2 : K.lookup f2 = some ⟨oc2, od2, .func (PySem.W.fnOf "_law_grown" "_law_grown" (defArgs st_law_grown) (defBody st_law_grown) (defScope st_law_grown) .none kV2 dc2 pm2 an2 cd2 ct2), sl2⟩)
    (c2 : PySem.W.codeIn K cd2 "_law_grown" = true)
    (k2 : PySem.W.keepIn K (.ref f2) = true)
    (a3 : PySem.W.nsIn K mainGlobals "_law_chain" = some (some (.ref f3)))
    (l3 : K.lookup f3 = some ⟨oc3, od3, .func (PySem.W.fnOf "_law_chain" "_law_chain" (defArgs st_law_chain) (defBody st_law_chain) (defScope st_law_chain) .none kV3 dc3 pm3 an3 cd3 ct3), sl3⟩)
    (c3 : PySem.W.codeIn K cd3 "_law_chain" = true)
    (k3 : PySem.W.keepIn K (.ref f3) = true)
    (a4 : PySem.W.nsIn K mainGlobals "_law_log_text" = some (some (.ref f4)))
    (l4 : K.lookup f4 = some ⟨oc4, od4, .func (PySem.W.fnOf "_law_log_text" "_law_log_text" (defArgs st_law_log_text) (defBody st_law_log_text) (defScope st_law_log_text) .none kV4 dc4 pm4 an4 cd4 ct4), sl4⟩)
    (c4 : PySem.W.codeIn K cd4 "_law_log_text" = true)
    (k4 : PySem.W.keepIn K (.ref f4) = true)
    (a5 : PySem.W.nsIn K mainGlobals "are_integers" = some (some (.ref f5)))
    (l5 : K.lookup f5 = some ⟨oc5, od5, .func (PySem.W.fnOf "are_integers" "are_integers" (defArgs stare_integers) (defBody stare_integers) (defScope stare_integers) .none kV5 dc5 pm5 an5 cd5 ct5), sl5⟩)
    (c5 : PySem.W.codeIn K cd5 "are_integers" = true)
    (k5 : PySem.W.keepIn K (.ref f5) = true)
    (a6 : PySem.W.nsIn K mainGlobals "_are_links" = some (some (.ref f6)))
    (l6 : K.lookup f6 = some ⟨oc6, od6, .func (PySem.W.fnOf "_are_links" "_are_links" (defArgs st_are_links) (defBody st_are_links) (defScope st_are_links) .none kV6 dc6 pm6 an6 cd6 ct6), sl6⟩)
    (c6 : PySem.W.codeIn K cd6 "_are_links" = true)
    (k6 : PySem.W.keepIn K (.ref f6) = true)
    (a7 : PySem.W.nsIn K mainGlobals "_cross_nowhere" = some (some (.ref f7)))
    (l7 : K.lookup f7 = some ⟨oc7, od7, .func (PySem.W.fnOf "_cross_nowhere" "_cross_nowhere" (defArgs st_cross_nowhere) (defBody st_cross_nowhere) (defScope st_cross_nowhere) .none kV7 dc7 pm7 an7 cd7 ct7), sl7⟩)
    (c7 : PySem.W.codeIn K cd7 "_cross_nowhere" = true)
    (k7 : PySem.W.keepIn K (.ref f7) = true)
    (a8 : PySem.W.nsIn K mainGlobals "is_log" = some (some (.ref f8)))
    (l8 : K.lookup f8 = some ⟨oc8, od8, .func (PySem.W.fnOf "is_log" "is_log" (defArgs stis_log) (defBody stis_log) (defScope stis_log) .none kV8 dc8 pm8 an8 cd8 ct8), sl8⟩)
    (c8 : PySem.W.codeIn K cd8 "is_log" = true)
    (k8 : PySem.W.keepIn K (.ref f8) = true)
    (a9 : PySem.W.nsIn K mainGlobals "require_log" = some (some (.ref f9)))
    (l9 : K.lookup f9 = some ⟨oc9, od9, .func (PySem.W.fnOf "require_log" "require_log" (defArgs strequire_log) (defBody strequire_log) (defScope strequire_log) .none kV9 dc9 pm9 an9 cd9 ct9), sl9⟩)
    (c9 : PySem.W.codeIn K cd9 "require_log" = true)
    (k9 : PySem.W.keepIn K (.ref f9) = true)
    (a10 : PySem.W.nsIn K mainGlobals "leads_down" = some (some (.ref f10)))
    (l10 : K.lookup f10 = some ⟨oc10, od10, .func (PySem.W.fnOf "leads_down" "leads_down" (defArgs stleads_down) (defBody stleads_down) (defScope stleads_down) .none kV10 dc10 pm10 an10 cd10 ct10), sl10⟩)
    (c10 : PySem.W.codeIn K cd10 "leads_down" = true)
    (k10 : PySem.W.keepIn K (.ref f10) = true)
    (a11 : PySem.W.nsIn K mainGlobals "_joined" = some (some (.ref f11)))
    (l11 : K.lookup f11 = some ⟨oc11, od11, .func (PySem.W.fnOf "_joined" "_joined" (defArgs st_joined) (defBody st_joined) (defScope st_joined) .none kV11 dc11 pm11 an11 cd11 ct11), sl11⟩)
    (c11 : PySem.W.codeIn K cd11 "_joined" = true)
    (k11 : PySem.W.keepIn K (.ref f11) = true)
    (a12 : PySem.W.nsIn K mainGlobals "show_chain" = some (some (.ref f12)))
    (l12 : K.lookup f12 = some ⟨oc12, od12, .func (PySem.W.fnOf "show_chain" "show_chain" (defArgs stshow_chain) (defBody stshow_chain) (defScope stshow_chain) .none kV12 dc12 pm12 an12 cd12 ct12), sl12⟩)
    (c12 : PySem.W.codeIn K cd12 "show_chain" = true)
    (k12 : PySem.W.keepIn K (.ref f12) = true)
    (a13 : PySem.W.nsIn K mainGlobals "show_log" = some (some (.ref f13)))
    (l13 : K.lookup f13 = some ⟨oc13, od13, .func (PySem.W.fnOf "show_log" "show_log" (defArgs stshow_log) (defBody stshow_log) (defScope stshow_log) .none kV13 dc13 pm13 an13 cd13 ct13), sl13⟩)
    (c13 : PySem.W.codeIn K cd13 "show_log" = true)
    (k13 : PySem.W.keepIn K (.ref f13) = true)
    (a14 : PySem.W.nsIn K mainGlobals "number_in" = some (some (.ref f14)))
    (l14 : K.lookup f14 = some ⟨oc14, od14, .func (PySem.W.fnOf "number_in" "number_in" (defArgs stnumber_in) (defBody stnumber_in) (defScope stnumber_in) .none kV14 dc14 pm14 an14 cd14 ct14), sl14⟩)
    (c14 : PySem.W.codeIn K cd14 "number_in" = true)
    (k14 : PySem.W.keepIn K (.ref f14) = true)
    (a15 : PySem.W.nsIn K mainGlobals "_numbers_in" = some (some (.ref f15)))
    (l15 : K.lookup f15 = some ⟨oc15, od15, .func (PySem.W.fnOf "_numbers_in" "_numbers_in" (defArgs st_numbers_in) (defBody st_numbers_in) (defScope st_numbers_in) .none kV15 dc15 pm15 an15 cd15 ct15), sl15⟩)
    (c15 : PySem.W.codeIn K cd15 "_numbers_in" = true)
    (k15 : PySem.W.keepIn K (.ref f15) = true)
    (a16 : PySem.W.nsIn K mainGlobals "read_chain" = some (some (.ref f16)))
    (l16 : K.lookup f16 = some ⟨oc16, od16, .func (PySem.W.fnOf "read_chain" "read_chain" (defArgs stread_chain) (defBody stread_chain) (defScope stread_chain) .none kV16 dc16 pm16 an16 cd16 ct16), sl16⟩)
    (c16 : PySem.W.codeIn K cd16 "read_chain" = true)
    (k16 : PySem.W.keepIn K (.ref f16) = true)
    (a17 : PySem.W.nsIn K mainGlobals "read_log" = some (some (.ref f17)))
    (l17 : K.lookup f17 = some ⟨oc17, od17, .func (PySem.W.fnOf "read_log" "read_log" (defArgs stread_log) (defBody stread_log) (defScope stread_log) .none kV17 dc17 pm17 an17 cd17 ct17), sl17⟩)
    (c17 : PySem.W.codeIn K cd17 "read_log" = true)
    (k17 : PySem.W.keepIn K (.ref f17) = true)
    (a18 : PySem.W.nsIn K mainGlobals "_law_right" = some (some (.ref f18)))
    (l18 : K.lookup f18 = some ⟨oc18, od18, .func (PySem.W.fnOf "_law_right" "_law_right" (defArgs st_law_right) (defBody st_law_right) (defScope st_law_right) .none kV18 dc18 pm18 an18 cd18 ct18), sl18⟩)
    (c18 : PySem.W.codeIn K cd18 "_law_right" = true)
    (k18 : PySem.W.keepIn K (.ref f18) = true)
    (a19 : PySem.W.nsIn K mainGlobals "law" = some (some (.ref f19)))
    (l19 : K.lookup f19 = some ⟨oc19, od19, .func (PySem.W.fnOf "law" "law" (defArgs stlaw) (defBody stlaw) (defScope stlaw) .none kV19 dc19 pm19 an19 cd19 ct19), sl19⟩)
    (c19 : PySem.W.codeIn K cd19 "law" = true)
    (k19 : PySem.W.keepIn K (.ref f19) = true)
    (z0 : PySem.W.nsIn K mainGlobals "bool" = some none)
    (z1 : PySem.W.nsIn K mainGlobals "enumerate" = some none)
    (z2 : PySem.W.nsIn K mainGlobals "int" = some none)
    (z3 : PySem.W.nsIn K mainGlobals "isinstance" = some none)
    (z4 : PySem.W.nsIn K mainGlobals "len" = some none)
    (z5 : PySem.W.nsIn K mainGlobals "list" = some none)
    (z6 : PySem.W.nsIn K mainGlobals "max" = some none)
    (z7 : PySem.W.nsIn K mainGlobals "min" = some none)
    (z8 : PySem.W.nsIn K mainGlobals "range" = some none)
    (z9 : PySem.W.nsIn K mainGlobals "repr" = some none)
    (z10 : PySem.W.nsIn K mainGlobals "str" = some none)
    (z11 : PySem.W.nsIn K mainGlobals "sum" = some none)
    (z12 : PySem.W.nsIn K mainGlobals "zip" = some none)
    (q0 : PySem.W.nsIn K mainGlobals "MOST_ENTRIES" = some (some (.int 150 tk0)))
    (q1 : PySem.W.nsIn K mainGlobals "NO_LINKS" = some (some (.str "-" tk1)))
    (q2 : PySem.W.nsIn K mainGlobals "ENTRY_DIGITS" = some (some (.int 3 tk2)))
    : Txt K mg := by
  constructor
  · exact ⟨_, _, fun_mk (st := st_law_reel) l0 c0 k0, PySem.W.mg_of X G a0, (fun_mk (st := st_law_reel) l0 c0 k0).binds fun _ _ _ _ _ _ us hl => match us, hl with | [_, _], _ => rfl⟩
  · exact ⟨_, _, fun_mk (st := st_law_turn) l1 c1 k1, PySem.W.mg_of X G a1, (fun_mk (st := st_law_turn) l1 c1 k1).binds fun _ _ _ _ _ _ us hl => match us, hl with | [_, _], _ => rfl⟩
  · exact ⟨_, _, fun_mk (st := st_law_grown) l2 c2 k2, PySem.W.mg_of X G a2, (fun_mk (st := st_law_grown) l2 c2 k2).binds fun _ _ _ _ _ _ us hl => match us, hl with | [_, _], _ => rfl⟩
  · exact ⟨_, _, fun_mk (st := st_law_chain) l3 c3 k3, PySem.W.mg_of X G a3, (fun_mk (st := st_law_chain) l3 c3 k3).binds fun _ _ _ _ _ _ us hl => match us, hl with | [_, _, _], _ => rfl⟩
  · exact ⟨_, _, fun_mk (st := st_law_log_text) l4 c4 k4, PySem.W.mg_of X G a4, (fun_mk (st := st_law_log_text) l4 c4 k4).binds fun _ _ _ _ _ _ us hl => match us, hl with | [_], _ => rfl⟩
  · exact ⟨_, _, fun_mk (st := stare_integers) l5 c5 k5, PySem.W.mg_of X G a5, (fun_mk (st := stare_integers) l5 c5 k5).binds fun _ _ _ _ _ _ us hl => match us, hl with | [_], _ => rfl⟩
  · exact ⟨_, _, fun_mk (st := st_are_links) l6 c6 k6, PySem.W.mg_of X G a6, (fun_mk (st := st_are_links) l6 c6 k6).binds fun _ _ _ _ _ _ us hl => match us, hl with | [_], _ => rfl⟩
  · exact ⟨_, _, fun_mk (st := st_cross_nowhere) l7 c7 k7, PySem.W.mg_of X G a7, (fun_mk (st := st_cross_nowhere) l7 c7 k7).binds fun _ _ _ _ _ _ us hl => match us, hl with | [_], _ => rfl⟩
  · exact ⟨_, _, fun_mk (st := stis_log) l8 c8 k8, PySem.W.mg_of X G a8, (fun_mk (st := stis_log) l8 c8 k8).binds fun _ _ _ _ _ _ us hl => match us, hl with | [_], _ => rfl⟩
  · exact ⟨_, _, fun_mk (st := strequire_log) l9 c9 k9, PySem.W.mg_of X G a9, (fun_mk (st := strequire_log) l9 c9 k9).binds fun _ _ _ _ _ _ us hl => match us, hl with | [_], _ => rfl⟩
  · exact ⟨_, _, fun_mk (st := stleads_down) l10 c10 k10, PySem.W.mg_of X G a10, (fun_mk (st := stleads_down) l10 c10 k10).binds fun _ _ _ _ _ _ us hl => match us, hl with | [_, _], _ => rfl⟩
  · exact ⟨_, _, fun_mk (st := st_joined) l11 c11 k11, PySem.W.mg_of X G a11, (fun_mk (st := st_joined) l11 c11 k11).binds fun _ _ _ _ _ _ us hl => match us, hl with | [_, _], _ => rfl⟩
  · exact ⟨_, _, fun_mk (st := stshow_chain) l12 c12 k12, PySem.W.mg_of X G a12, (fun_mk (st := stshow_chain) l12 c12 k12).binds fun _ _ _ _ _ _ us hl => match us, hl with | [_, _], _ => rfl⟩
  · exact ⟨_, _, fun_mk (st := stshow_log) l13 c13 k13, PySem.W.mg_of X G a13, (fun_mk (st := stshow_log) l13 c13 k13).binds fun _ _ _ _ _ _ us hl => match us, hl with | [_], _ => rfl⟩
  · exact ⟨_, _, fun_mk (st := stnumber_in) l14 c14 k14, PySem.W.mg_of X G a14, (fun_mk (st := stnumber_in) l14 c14 k14).binds fun _ _ _ _ _ _ us hl => match us, hl with | [_, _], _ => rfl⟩
  · exact ⟨_, _, fun_mk (st := st_numbers_in) l15 c15 k15, PySem.W.mg_of X G a15, (fun_mk (st := st_numbers_in) l15 c15 k15).binds fun _ _ _ _ _ _ us hl => match us, hl with | [_, _], _ => rfl⟩
  · exact ⟨_, _, fun_mk (st := stread_chain) l16 c16 k16, PySem.W.mg_of X G a16, (fun_mk (st := stread_chain) l16 c16 k16).binds fun _ _ _ _ _ _ us hl => match us, hl with | [_, _], _ => rfl⟩
  · exact ⟨_, _, fun_mk (st := stread_log) l17 c17 k17, PySem.W.mg_of X G a17, (fun_mk (st := stread_log) l17 c17 k17).binds fun _ _ _ _ _ _ us hl => match us, hl with | [_], _ => rfl⟩
  · exact ⟨_, _, fun_mk (st := st_law_right) l18 c18 k18, PySem.W.mg_of X G a18, (fun_mk (st := st_law_right) l18 c18 k18).binds fun _ _ _ _ _ _ us hl => match us, hl with | [_, _], _ => rfl⟩
  · exact ⟨_, _, fun_mk (st := stlaw) l19 c19 k19, PySem.W.mg_of X G a19, (fun_mk (st := stlaw) l19 c19 k19).binds fun _ _ _ _ _ _ us hl => match us, hl with | [_], _ => rfl⟩
  · exact PySem.W.mg_none_of X G z0
  · exact PySem.W.mg_none_of X G z1
  · exact PySem.W.mg_none_of X G z2
  · exact PySem.W.mg_none_of X G z3
  · exact PySem.W.mg_none_of X G z4
  · exact PySem.W.mg_none_of X G z5
  · exact PySem.W.mg_none_of X G z6
  · exact PySem.W.mg_none_of X G z7
  · exact PySem.W.mg_none_of X G z8
  · exact PySem.W.mg_none_of X G z9
  · exact PySem.W.mg_none_of X G z10
  · exact PySem.W.mg_none_of X G z11
  · exact PySem.W.mg_none_of X G z12
  · exact ⟨_, PySem.W.mg_of X G q0⟩
  · exact ⟨_, PySem.W.mg_of X G q1⟩
  · exact ⟨_, PySem.W.mg_of X G q2⟩
theorem ok_all {P : Program} {w : World} {K : PySem.W.Frag} {mg : Str → Option Value} {base : Heap} (T : Txt K mg) : OkF P w K mg base CX0 7 "law" ["script"] (splaw K) := by
  have G_law_reel := ok_law_reel (P := P) (w := w) (base := base) T
  have G_law_turn := ok_law_turn (P := P) (w := w) (base := base) T
  have G_law_grown := ok_law_grown (P := P) (w := w) (base := base) T G_law_turn
  have G_law_chain := ok_law_chain (P := P) (w := w) (base := base) T G_law_turn
  have G_law_log_text := ok_law_log_text (P := P) (w := w) (base := base) T
  have Gare_integers := okare_integers (P := P) (w := w) (base := base) T
  have G_are_links := ok_are_links (P := P) (w := w) (base := base) T Gare_integers
  have G_cross_nowhere := ok_cross_nowhere (P := P) (w := w) (base := base) T
  have Gis_log := okis_log (P := P) (w := w) (base := base) T G_are_links G_cross_nowhere
  have Grequire_log := okrequire_log (P := P) (w := w) (base := base) T Gis_log
  have Gleads_down := okleads_down (P := P) (w := w) (base := base) T Gare_integers
  have G_joined := ok_joined (P := P) (w := w) (base := base) T
  have Gshow_chain := okshow_chain (P := P) (w := w) (base := base) T Grequire_log Gleads_down G_joined
  have Gshow_log := okshow_log (P := P) (w := w) (base := base) T Grequire_log G_joined
  have Gnumber_in := oknumber_in (P := P) (w := w) (base := base) T
  have G_numbers_in := ok_numbers_in (P := P) (w := w) (base := base) T Gnumber_in
  have Gread_chain := okread_chain (P := P) (w := w) (base := base) T Grequire_log G_numbers_in Gleads_down
  have Gread_log := okread_log (P := P) (w := w) (base := base) T G_numbers_in Gis_log
  have G_law_right := ok_law_right (P := P) (w := w) (base := base) T G_law_log_text Gshow_chain Gshow_log Gread_chain Gread_log
  exact oklaw T G_law_reel G_law_turn G_law_grown G_law_chain G_law_right Gread_log Gread_chain
theorem fin {w : World} {K : PySem.W.Frag} {mg : Str → Option Value} {fa : Addr} (hmg : mg "law" = some (.ref fa)) (T : Txt K mg) :
    ∃ fd : FuncData, (∀ (s : Shared) (u : Value), BindsTo s fd ⟨[u], []⟩ [("script", u)]) ∧
      ∀ base : Heap, K.In base → base.Ns mainGlobals mg → GFn PySem.Challenge.rw_backlinks_k66_logs_and_chains_written.prog w K mg base CX0 7 fa fd ["script"] (splaw K) := by
  obtain ⟨f0, fd0, F0, m0, b0⟩ := T.d_law.ex
  have e0 : f0 = fa := Value.ref.inj (Option.some.inj (m0.symm.trans hmg))
  subst e0
  exact ⟨fd0, fun s u => VB.binds1 F0 (fun _ _ _ _ _ _ _ => rfl) s u, fun base _ _ => VB.same_fd F0 m0 (ok_all (P := _) (w := w) (base := base) T)⟩
end V_k66
open PySem PySem.W PyProof.Rows
set_option maxHeartbeats 0 in
theorem PySem.Challenge.cw_backlinks_k66_logs_and_chains_written_holds : PySem.Challenge.rw_backlinks_k66_logs_and_chains_written.Holds := by
  w_on; o_law; k_head; (case hw => w_witness2)
  k_fill
  refine VB.walk_g (l := PySem.Challenge.rw_backlinks_k66_logs_and_chains_written) (n := 63) (k := 7) (x := "script") (CX := fun _ => L2.CX0) (sp := V_k66.splaw) rfl (by decide) rfl ⟨rfl, by decide, by decide⟩ (fun w h Y => PySem.W.kIn_of Y) ?F ?S (fun _ _ _ _ _ h => h)
  case S =>
    intro w H a ns hl hO hS
    exact VB.law_start hl hS
  case F =>
    intro w mg fa h KX G hmg
    refine' V_k66.fin hmg (V_k66.all_mk (w := w) KX G ?a0 ?l0 ?c0 ?k0 ?a1 ?l1 ?c1 ?k1 ?a2 ?l2 ?c2 ?k2 ?a3 ?l3 ?c3 ?k3 ?a4 ?l4 ?c4 ?k4 ?a5 ?l5 ?c5 ?k5 ?a6 ?l6 ?c6 ?k6 ?a7 ?l7 ?c7 ?k7 ?a8 ?l8 ?c8 ?k8 ?a9 ?l9 ?c9 ?k9 ?a10 ?l10 ?c10 ?k10 ?a11 ?l11 ?c11 ?k11 ?a12 ?l12 ?c12 ?k12 ?a13 ?l13 ?c13 ?k13 ?a14 ?l14 ?c14 ?k14 ?a15 ?l15 ?c15 ?k15 ?a16 ?l16 ?c16 ?k16 ?a17 ?l17 ?c17 ?k17 ?a18 ?l18 ?c18 ?k18 ?a19 ?l19 ?c19 ?k19 ?z0 ?z1 ?z2 ?z3 ?z4 ?z5 ?z6 ?z7 ?z8 ?z9 ?z10 ?z11 ?z12 ?q0 ?q1 ?q2)
    (case a0 => k_is)
    (case l0 => k_is)
    (case c0 => k_is)
    (case k0 => k_is)
    (case a1 => k_is)
    (case l1 => k_is)
    (case c1 => k_is)
    (case k1 => k_is)
    (case a2 => k_is)
    (case l2 => k_is)
    (case c2 => k_is)
    (case k2 => k_is)
    (case a3 => k_is)
    (case l3 => k_is)
    (case c3 => k_is)
    (case k3 => k_is)
    (case a4 => k_is)
    (case l4 => k_is)
    (case c4 => k_is)
    (case k4 => k_is)
    (case a5 => k_is)
    (case l5 => k_is)
    (case c5 => k_is)
    (case k5 => k_is)
    (case a6 => k_is)
    (case l6 => k_is)
    (case c6 => k_is)
    (case k6 => k_is)
    (case a7 => k_is)
    (case l7 => k_is)
    (case c7 => k_is)
    (case k7 => k_is)
    (case a8 => k_is)
    (case l8 => k_is)
    (case c8 => k_is)
    (case k8 => k_is)
    (case a9 => k_is)
    (case l9 => k_is)
    (case c9 => k_is)
    (case k9 => k_is)
    (case a10 => k_is)
    (case l10 => k_is)
    (case c10 => k_is)
    (case k10 => k_is)
    (case a11 => k_is)
    (case l11 => k_is)
    (case c11 => k_is)
    (case k11 => k_is)
    (case a12 => k_is)
    (case l12 => k_is)
    (case c12 => k_is)
    (case k12 => k_is)
    (case a13 => k_is)
    (case l13 => k_is)
    (case c13 => k_is)
    (case k13 => k_is)
    (case a14 => k_is)
    (case l14 => k_is)
    (case c14 => k_is)
    (case k14 => k_is)
    (case a15 => k_is)
    (case l15 => k_is)
    (case c15 => k_is)
    (case k15 => k_is)
    (case a16 => k_is)
    (case l16 => k_is)
    (case c16 => k_is)
    (case k16 => k_is)
    (case a17 => k_is)
    (case l17 => k_is)
    (case c17 => k_is)
    (case k17 => k_is)
    (case a18 => k_is)
    (case l18 => k_is)
    (case c18 => k_is)
    (case k18 => k_is)
    (case a19 => k_is)
    (case l19 => k_is)
    (case c19 => k_is)
    (case k19 => k_is)
    (case z0 => k_is)
    (case z1 => k_is)
    (case z2 => k_is)
    (case z3 => k_is)
    (case z4 => k_is)
    (case z5 => k_is)
    (case z6 => k_is)
    (case z7 => k_is)
    (case z8 => k_is)
    (case z9 => k_is)
    (case z10 => k_is)
    (case z11 => k_is)
    (case z12 => k_is)
    (case q0 => k_is)
    (case q1 => k_is)
    (case q2 => k_is)
