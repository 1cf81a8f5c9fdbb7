import PyProof.Rows.All
import Wide.All
import OpenK.AllK
import Wide.FinOn
import HandS.ForMost
import HandS.IsInst
import HandS.AnyAll
import HandS.EndTab
import HandS.Walk
import HandS.TryOnly
import HandS.TupLe
import HandS.TupAny
import KE.KSortTupG
import HandS.Conv
import HandS.Sort
import HandS.More
import HandS.Set
import HandS.Strs
import HandS.SetFor
import PyProof.WalksMore
import PyProof.TupleIter
import HandS.Iter
import HandS.Zip
import HandS.Star
import HandS.Style
import PyProof.ListStr
import KE.SortData
import PySem.Challenge.RW_wipeways_k10_words_one_by_one
set_option Elab.async false
set_option linter.all false
set_option maxRecDepth 100000
set_option maxHeartbeats 2000000
namespace Kk
open PySem PySem.Spec PyProof.Rows L2

/-- the element of a generator over signs, where the module's names are to be read -/
def EltB (X : Cx) (sc : Scope) (x : Str) (e : Expr) (pb : Nat → Bool) : Prop :=
  ∀ (ge : Env) (B : Around) (F : Value → Shared → Prop) (c : Nat) (t : Tok) (z : Shared) (m : Str → Option Value),
    ge.scope = sc → ge.globals = mainGlobals → (∀ b o, X.base.get? b = some o → z.heap.get? b = some o) →
    z.heap.Ns ge.locals m → m x = some (.str ⟨#[c]⟩ t) →
    wpAny (model X.prog X.w) B (eval e ge) (fun y z' => y = .bool (pb c) ∧ Keeps z z') F z

section
variable {X : Cx} {pins : List (Addr × Obj)} {σ : L2.St} {H : Hp} {s : Shared}

theorem genB {c P : Addr} {e it : Expr} {x : Str} {px gp : Pos} {sc : Scope} {pb : Nat → Bool} {te : TE} {k : Nat} {G : Value → Shared → Prop} {R : Str → Hp → Prop}
    (room : Room k X.A) (tab : GxR.TabB X.base X.mg c P) (code : X.env.code = .ref c) (gs : GxR.GenS X.env sc x) (pit : PE X it te) (pel : EltB X sc x e pb)
    (fold : ∀ v, genFold it X.env v = pure v) (I : Inv X pins σ H s) (want : te σ H fun v H1 => ∃ a : Str, v = .str a ∧ GxR.TabG H1 P ∧ R a H1)
    (fin : ∀ a H1 g s5, R a H1 → GxR.Ready X pins σ H1 P a pb g s5 → G (.ref g) s5) :
    wpAny (model X.prog X.w) X.A (eval (.GeneratorExp e [⟨.Name x px, it, [], 0⟩] sc gp) X.env) G X.xe s := by
  have deep : X.A.depth < recursionLimit := by have q := room.dp; omega
  refine wpAny_GeneratorExp_walksQ room.hd gs.co (closure_ok gs.free) gs.cell gs.dot gs.loc gs.kind deep ?_ fold
  refine thn (pit.run pins s σ H _ I want) fun xv z ⟨v, H1, J, rv, got⟩ => ?_
  obtain ⟨a, rfl, ⟨rows, isT, trip⟩, rest⟩ := got
  obtain ⟨t, rfl⟩ := _root_.id rv
  refine wpAny_pyIter_str fun io St W st0 => ?_
  have atP : z.heap.get? P = some { cls := .none, data := .fields rows } := J.hok P _ isT
  have ltP : P < z.heap.objs.size := Heap.lt_size atP
  have atP2 : (z.heap.push io).get? P = some { cls := .none, data := .fields rows } := Heap.get?_push_of_some _ atP
  have chd : PySem.W.CodeHd (z.heap.push io) c P := tab.code.keeps fun b u q => Heap.get?_push_of_some _ (J.bk b u q)
  have nl : (z.heap.push io).NoLimit := J.nolimit.push io
  have go : ∀ (cv : Value) (h3 : Heap) (tk : Nat) (rows' : Array Value), Heap.ExtBut P (z.heap.push io) h3 → (z.heap.push io).objs.size ≤ h3.objs.size →
      h3.get? P = some { cls := .none, data := .fields rows' } → (∃ more, rows' = rows ++ more) → TriplesOk rows'.toList →
      wpAny (model X.prog X.w) X.A (builtinsFor X.env.globals X.env.builtins) (fun bi s4 =>
        ∃ Ia fp wr n0 Pf S0 pz F, Value.ref z.heap.objs.size = .ref Ia ∧ (∀ B : Around, B.handled = none → Walks X.prog X.w B Ia fp wr n0 Pf S0) ∧
          S0 0 s4.heap ∧ (∀ b ∈ fp, b < s4.heap.objs.size) ∧ s4.heap.NoLimit ∧ cStatics ∉ wr ∧
          (∀ hr : Heap, (∀ b o, s4.heap.get? b = some o → hr.get? b = some o) →
            QuietGen X.prog X.w (genEnv sc (cloFrom X.env.cells sc.names []) s4.heap.objs.size cv bi X.env) x [] e (List.range s4.heap.objs.size) wr Pf pz F hr) ∧
          (∀ g h5 tk gst, gst.bare = true → s4.heap.objs.size < g → h5.objs.size = g + 1 → (∀ b o, s4.heap.get? b = some o → h5.get? b = some o) →
            WalksS X.prog X.w X.A.in4 g (g :: s4.heap.objs.size :: List.range s4.heap.objs.size) (s4.heap.objs.size :: wr) (GenOnlyQ s4.gens.size) (passing pz n0 0).length
              (fun j y => ∃ i, (passing pz n0 0)[j]? = some i ∧ F i y) (GenAt X.prog X.w X.A.in4 g s4.gens.size s4.heap.objs.size (List.range s4.heap.objs.size) wr pz n0 F) →
            GenAt X.prog X.w X.A.in4 g s4.gens.size s4.heap.objs.size (List.range s4.heap.objs.size) wr pz n0 F 0 { s4 with gens := s4.gens.push gst, toks := tk, heap := h5 } →
            G (.ref g) { s4 with gens := s4.gens.push gst, toks := tk, heap := h5 })) X.xe { z with heap := h3, toks := tk } := by
    intro cv h3 tk rows' ext le3 at3 grown trip3
    obtain ⟨bm, ob, b1, b2, b3, b4, b5, b6, b7, b8⟩ := tab.bm
    have cP : cStatics ≠ P := fun q => by
      obtain ⟨_, ns, _⟩ := J.nolimit
      obtain ⟨o9, es, ep, g9, d9, _⟩ := ns
      rw [q, atP] at g9; cases g9; cases d9
    have cLt : cStatics < z.heap.objs.size := let ⟨_, ns, _⟩ := J.nolimit; ns.lt
    have szI : (z.heap.push io).objs.size = z.heap.objs.size + 1 := Heap.size_push ..
    have kp3 : ∀ b u, b ≠ P → z.heap.get? b = some u → h3.get? b = some u := fun b u nb q => ext b u nb (Heap.get?_push_of_some _ q)
    have kpB : ∀ b u, X.base.get? b = some u → h3.get? b = some u ∧ b < z.heap.objs.size := fun b u q => by
      obtain ⟨q1, q2⟩ := J.bs b u q
      exact ⟨kp3 b u (fun zz => by rw [zz, isT] at q2; cases q2) q1, Heap.lt_size q1⟩
    refine wpAny_builtinsFor (m := X.mg) (by rw [J.ok.glob]; exact ((J.mod.glob.keeps J.bk).push io).extBut ext tab.gP) b1 b2 (kp3 _ _ b4 (J.bk _ _ b5)) b6 b7 b8 ?_
    refine ⟨z.heap.objs.size, [z.heap.objs.size], [z.heap.objs.size], a.cps.size, SignAt a, St, (fun _ => true), (fun i y => ∃ cc, a.cps[i]? = some cc ∧ y = .bool (pb cc)), rfl, W,
      ?_, ?_, nl.extBut ext cP, ?_, ?_, ?_⟩
    · refine (W X.A room.hd).frame _ _ _ st0 fun b hb u q => ext b u (fun zz => ?_) q
      rcases List.mem_cons.mp hb with z2 | z2
      · exact Nat.ne_of_lt ltP (zz.symm.trans z2)
      · cases z2
    · intro b hb
      rcases List.mem_cons.mp hb with q | q
      · rw [q]; show z.heap.objs.size < h3.objs.size; omega
      · cases q
    · intro q
      rcases List.mem_cons.mp q with q | q
      · exact Nat.ne_of_lt cLt q
      · cases q
    · intro hr hhr
      refine ⟨fun B E' i v s2 m2 hB hPv hn hm hk => ?_, fun B E' i v s2 m2 hB hPv hp hn hm hk => ?_⟩
      · simp only [List.forIn_nil]
        exact wpAny_pure ⟨rfl, GxR.keeps_refl _⟩
      · obtain ⟨cc, u, hcc, rfl⟩ := hPv
        refine wpAny_mono (pel _ B E' cc u s2 m2 rfl J.ok.glob (fun b o q => ?_) hn hm) (fun y s3 r => ⟨⟨cc, hcc, r.1⟩, r.2⟩) fun _ _ q => q
        obtain ⟨q1, q2⟩ := kpB b o q
        exact hk b (List.mem_range.mpr (Heap.lt_size q1)) (fun zz => by
          rcases List.mem_cons.mp zz with zz | zz
          · exact Nat.ne_of_lt q2 zz
          · cases zz) o (hhr b o q1)
    · intro g h5 tk5 gst bare gt sz5 kp5 W5 at0
      simp only [GxR.passing_true, List.length_range] at W5
      refine fin a H1 g _ rest ⟨_, _, _, _, _, W5.in4_1, at0, ?_, fun s9 mv => ?_⟩
      · intro j y sj Qj Ej hy hQj
        obtain ⟨i, hij, cc, hcc, rfl⟩ := hy
        obtain ⟨hj, ej⟩ := List.getElem?_eq_some_iff.mp hij
        rw [List.getElem_range] at ej
        subst ej
        have q9 : a.cps.toList[j]? = some cc := by rw [Array.getElem?_toList]; exact hcc
        have hQ2 : Qj (GxR.trF pb a.cps.toList j) sj := hQj
        rw [GxR.trF_some q9] at hQ2
        exact wpAny_truthy_bool hQ2
      · obtain ⟨more, em⟩ := grown
        have nw : ∀ b u, z.heap.get? b = some u → b ∉ h3.objs.size :: [z.heap.objs.size] := fun b u q hb => by
          have lb := Heap.lt_size q
          rcases List.mem_cons.mp hb with q | q
          · rw [q] at lb
            have q9 : (h3.objs.size : Nat) < z.heap.objs.size := lb
            omega
          · rcases List.mem_cons.mp q with q | q
            · rw [q] at lb; exact Nat.lt_irrefl _ lb
            · cases q
        have J2 := GxR.inv_tab (more := more) (h' := s9.heap) (g' := s9.gens) (d' := s9.drawn) (t' := s9.toks) J isT (fun b u nb q => mv.heap b u (nw b u q) (kp5 b u (kp3 b u nb q)))
          (by rw [← em]; exact mv.heap P _ (nw P _ atP) (kp5 P _ at3)) (AllBare.movedS (J.bare.push bare) mv)
        rw [GxR.sh_eta z s9 mv.os] at J2
        exact ⟨upd H1 P (.tbl (rows ++ more)), ⟨⟨rows ++ more, upd_same, by rw [← em]; exact trip3⟩, fun b nb => upd_ne nb⟩, J2⟩
  refine ⟨nl, ?_⟩
  cases am : codeAmong gp rows.toList with
  | none =>
    refine wpAny_genexprCodeX code (chd.code atP2 trip) (chd.tab atP2) am fun c' h' tk hx hge hlt hco _ htab _ => ?_
    obtain ⟨o1, vs, f1, tf, fl, tg, inF, tx, tt, op, _, _, _, _, _, _, _, _, _, htr, _⟩ := hco
    exact go _ h' tk _ hx (Nat.le_trans hge (Nat.le_of_lt hlt)) htab.2 ⟨_, rfl⟩ htr
  | some cv =>
    refine wpAny_genexprCode_hit code (chd.code atP2 trip) am ?_
    exact go cv (z.heap.push io) z.toks rows (Heap.ExtBut.refl _ _) (Nat.le_refl _) atP2 ⟨#[], by simp⟩ trip

/-- all(e for x in a text) -/
theorem pe_allB {c P : Addr} {e it : Expr} {x : Str} {px p pos gp : Pos} {sc : Scope} {pb : Nat → Bool} {te : TE} {k : Nat}
    (room : Room k X.A) (hg : Gl X "all") (hm : X.mg "all" = none) (tab : GxR.TabB X.base X.mg c P) (code : X.env.code = .ref c) (gs : GxR.GenS X.env sc x) (pit : PE X it te) (pel : EltB X sc x e pb)
    (fold : ∀ v, genFold it X.env v = pure v)
    (he : starEach [.GeneratorExp e [⟨.Name x px, it, [], 0⟩] sc gp] X.env = (false, eval (.GeneratorExp e [⟨.Name x px, it, [], 0⟩] sc gp) X.env) :: starEach [] X.env := by rfl) :
    PE X (.Call (.Name "all" p) [.GeneratorExp e [⟨.Name x px, it, [], 0⟩] sc gp] [] pos) (GxR.tAllS P pb te) := by
  refine ⟨fun pins s σ H Q I want => ?_⟩
  have hb : bootBuiltins "all" = some (.builtin "all") := by decide +kernel
  refine wpAny_Call_Name_kw (ld_blt I hg hm hb ?_)
  refine PyProof.Rows.callWith_builtin1 ?_ he (by rfl)
  rw [he]
  show wpAny _ _ (spliced ((false, eval (.GeneratorExp e [⟨.Name x px, it, [], 0⟩] sc gp) X.env) :: backTo pos (starEach [] X.env))) _ _ s
  refine Calls.spliced_cons (genB (R := fun a H1 => ∀ H2, GxR.Tabbed P H1 H2 → Q (.bl (a.cps.toList.all pb)) H2) room tab code gs pit pel fold I want fun a H1 g s5 hR rd => ?_)
  obtain ⟨fp, wr, G, F, St, W, hst, htr, hI⟩ := rd
  refine Calls.spliced_nil ?_
  refine call_all_walkS (W.self 0 _ _ _ hst ⟨g, fp, wr, G, _, F, St, _, rfl, W, hst, htr, fun s' mv => ?_⟩)
  obtain ⟨H2, hT, J⟩ := hI s' mv
  refine ⟨.bl _, H2, J, rfl, ?_⟩
  rw [GxR.all_signs a pb]
  exact hR H2 hT

/-- x in NAME: NAME a text of the module -/
theorem elt_in {sc : Scope} {x y z : Str} {tz : Tok} {p1 p2 p3 : Pos} (gls : X.base.Ns mainGlobals X.mg) (hk : sc.kind = .function) (hl : sc.names.lookup x = some .local)
    (hy : sc.names.lookup y = some .globalImplicit) (hm : X.mg y = some (.str z tz)) (hd : (x == ("__debug__" : Str)) = false := by decide) (hd2 : (y == ("__debug__" : Str)) = false := by decide) :
    EltB X sc x (.Compare (.Name x p1) [.In] [.Name y p2] p3) (fun c => decide (c ∈ z.cps.toList)) := by
  intro ge B F c t q m hs hgl kb hn hx
  refine wpAny_Compare1 ?_
  refine wpAny_Name (wpAny_loadName_local (by rw [hs]; exact hk) (show ge.scope.names.lookup x = some .local by rw [hs]; exact hl) hn hx ?_) hd
  refine Calls.Name_function_global (by rw [hs]; exact hk) ?_ (Calls.loadGlobal_global (by rw [hgl]; exact gls.keeps kb) hm ?_) hd2
  · show ge.scope.names.lookup y = some .globalImplicit
    rw [hs]; exact hy
  · refine PyProof.Rows.in_str ⟨?_, GxR.keeps_refl _⟩
    rw [PySem.StrLaws.found_one z c]
end
end Kk

namespace Kk
open PySem PySem.Spec PyProof.Rows L2

/-- no table of a code object -/
def NoTb (o : HO) : Prop := ∀ ps, o ≠ .tbl ps
theorem nt_lst {xs : List V} : NoTb (.lst xs) := fun _ h => by cases h
theorem nt_tup {xs : List V} : NoTb (.tup xs) := fun _ h => by cases h
theorem nt_dK {xs : List (Key × V)} : NoTb (.dK xs) := fun _ h => by cases h
theorem nt_frz {o : Obj} {u : HO} : NoTb (.frz o u) := fun _ h => by cases h
/-- what never changes -/
def Fx : HO → Bool
  | .tup _ => true
  | .frz _ _ => true
  | _ => false
/-- what stands stays, but for xs and what the tables grow by; nothing vanishes; tuples stay -/
structure Ex (xs : List Addr) (H H' : Hp) : Prop where
  a : ∀ b o, b ∉ xs → H b = some o → NoTb o → H' b = some o
  c : ∀ b o, H b = some o → Fx o = true → H' b = some o
  t : ∀ P, GxR.TabG H P → GxR.TabG H' P
  f : ∀ b, H' b = none → H b = none
theorem Ex.refl {xs : List Addr} {H : Hp} : Ex xs H H := ⟨fun _ _ _ h _ => h, fun _ _ h _ => h, fun _ h => h, fun _ h => h⟩
theorem Ex.trans {xs : List Addr} {H H1 H2 : Hp} (a : Ex xs H H1) (b : Ex xs H1 H2) : Ex xs H H2 :=
  ⟨fun c o n h t => b.a c o n (a.a c o n h t) t, fun c o h t => b.c c o (a.c c o h t) t, fun P h => b.t P (a.t P h), fun c h => a.f c (b.f c h)⟩
theorem Ex.mono {xs ys : List Addr} {H H' : Hp} (a : Ex xs H H') (s : ∀ b, b ∈ xs → b ∈ ys) : Ex ys H H' := ⟨fun c o n h t => a.a c o (fun q => n (s c q)) h t, a.c, a.t, a.f⟩
theorem Ex.nil {ys : List Addr} {H H' : Hp} (a : Ex [] H H') : Ex ys H H' := a.mono fun _ q => by cases q
theorem tab_upd {H : Hp} {P p : Addr} {o : HO} (t : GxR.TabG H P) (n : ∀ ps, H p ≠ some (.tbl ps)) : GxR.TabG (upd H p o) P := by
  obtain ⟨ps, h, q⟩ := t
  refine ⟨ps, ?_, q⟩
  rw [upd_ne fun z => n ps (by rw [← z]; exact h)]
  exact h
theorem upd_free {H : Hp} {p b : Addr} {o : HO} (h : upd H p o b = none) : H b = none := by
  by_cases z : b = p
  · rw [z, upd_same] at h; cases h
  · rw [upd_ne z] at h; exact h
theorem Ex.new {xs : List Addr} {H : Hp} {p : Addr} {o : HO} (n : H p = none) : Ex xs H (upd H p o) :=
  ⟨fun b u _ h _ => by rw [upd_ne (ne_of_none h n)]; exact h, fun b u h _ => by rw [upd_ne (ne_of_none h n)]; exact h, fun P h => tab_upd h fun ps z => (by rw [n] at z; cases z), fun b h => upd_free h⟩
theorem Ex.put {xs : List Addr} {H : Hp} {p : Addr} {u o : HO} (h0 : H p = some u) (nt : NoTb u) (m : p ∈ xs) (fx : Fx u = false := by rfl) : Ex xs H (upd H p o) :=
  ⟨fun b w nb h _ => by rw [upd_ne fun z => nb (by rw [z]; exact m)]; exact h, fun b w h k => (by
    have nb : b ≠ p := fun z => by rw [z, h0] at h; cases h; rw [fx] at k; cases k
    rw [upd_ne nb]; exact h), fun P h => tab_upd h fun ps z => (by rw [h0] at z; cases z; exact nt _ rfl), fun b h => upd_free h⟩
/-- an object of one's own, made on the way, may have changed -/
theorem Ex.own {xs : List Addr} {H H1 H' : Hp} {p : Addr} (n : H p = none) (e : Ex xs H H1) (a : Ex (p :: xs) H1 H') : Ex xs H H' :=
  ⟨fun b u nb h t => a.a b u (fun q => by
      rcases List.mem_cons.mp q with z | z
      · rw [z, n] at h; cases h
      · exact nb z) (e.a b u nb h t) t, fun b u h k => a.c b u (e.c b u h k) k, fun P h => a.t P (e.t P h), fun b h => e.f b (a.f b h)⟩
theorem Ex.lst {xs : List Addr} {H H' : Hp} {p : Addr} {ys : List V} (a : Ex xs H H') (h : H p = some (.lst ys)) (n : p ∉ xs := by simp) : H' p = some (.lst ys) := a.a p _ n h nt_lst
theorem Ex.dK {xs : List Addr} {H H' : Hp} {p : Addr} {ys : List (Key × V)} (a : Ex xs H H') (h : H p = some (.dK ys)) (n : p ∉ xs := by simp) : H' p = some (.dK ys) := a.a p _ n h nt_dK
theorem Ex.tup {xs : List Addr} {H H' : Hp} {p : Addr} {ys : List V} (a : Ex xs H H') (h : H p = some (.tup ys)) : H' p = some (.tup ys) := a.c p _ h rfl
theorem Ex.seqL {K : PySem.W.Frag} {xs : List Addr} {H H' : Hp} {p : Addr} {ys : List V} (a : Ex xs H H') (h : SqL K H p ys) (n : p ∉ xs := by simp) : SqL K H' p ys := by
  rcases h with (h | ⟨o, h⟩) | h
  · exact .inl (.inl (a.a p _ n h nt_lst))
  · exact .inl (.inr ⟨o, a.c p _ h rfl⟩)
  · exact .inr h
theorem Ex.seqT {K : PySem.W.Frag} {xs : List Addr} {H H' : Hp} {p : Addr} {ys : List V} (a : Ex xs H H') (h : SqT K H p ys) : SqT K H' p ys := by
  rcases h with (h | ⟨o, h⟩) | h
  · exact .inl (.inl (a.c p _ h rfl))
  · exact .inl (.inr ⟨o, a.c p _ h rfl⟩)
  · exact .inr h
theorem Ex.tabbed {xs : List Addr} {H H' : Hp} {P : Addr} (t : GxR.TabG H P) (k : GxR.Tabbed P H H') : Ex xs H H' := by
  obtain ⟨ps, e, _⟩ := t
  have st : ∀ b o, H b = some o → NoTb o → H' b = some o := fun b o h nt => by
    rw [k.2 b fun z => by rw [z, e] at h; cases h; exact nt _ rfl]; exact h
  refine ⟨fun b o _ h nt => st b o h nt, fun b o h fx => st b o h fun ps z => (by rw [z] at fx; cases fx), fun Q q => ?_, fun b h => ?_⟩
  · by_cases z : Q = P
    · rw [z]; exact k.1
    · obtain ⟨qs, h, r⟩ := q
      exact ⟨qs, by rw [k.2 Q z]; exact h, r⟩
  · by_cases z : b = P
    · obtain ⟨⟨qs, h', _⟩, _⟩ := k
      rw [z, h'] at h; cases h
    · rw [k.2 b z] at h; exact h

/-! data: texts, ints, truths, None, and tuples of these -/
mutual
inductive Tp (K : PySem.W.Frag) (H : Hp) : V → PyData → Prop
  | non : Tp K H .non .none
  | bl (b : Bool) : Tp K H (.bl b) (.bool b)
  | int (i : Int) : Tp K H (.int i) (.int i)
  | str (x : Str) : Tp K H (.str x) (.str x)
  | tup {a : Addr} {xs : List V} {ds : List PyData} : SqT K H a xs → TpAll K H xs ds → Tp K H (.ref a) (.tuple ds)
inductive TpAll (K : PySem.W.Frag) (H : Hp) : List V → List PyData → Prop
  | nil : TpAll K H [] []
  | cons {v : V} {vs : List V} {d : PyData} {ds : List PyData} : Tp K H v d → TpAll K H vs ds → TpAll K H (v :: vs) (d :: ds)
end
section
variable {K : PySem.W.Frag} {H H' : Hp} {xs : List Addr}
mutual
theorem Tp.ex (e : Ex xs H H') : ∀ {v : V} {d : PyData}, Tp K H v d → Tp K H' v d
  | _, _, .non => .non
  | _, _, .bl b => .bl b
  | _, _, .int i => .int i
  | _, _, .str x => .str x
  | _, _, .tup h r => .tup (e.seqT h) (TpAll.ex e r)
theorem TpAll.ex (e : Ex xs H H') : ∀ {vs : List V} {ds : List PyData}, TpAll K H vs ds → TpAll K H' vs ds
  | _, _, .nil => .nil
  | _, _, .cons h r => .cons (Tp.ex e h) (TpAll.ex e r)
end
mutual
theorem Tp.dp : ∀ {v : V} {d : PyData}, Tp K H v d → Dp K H v d
  | _, _, .non => .non
  | _, _, .bl b => .bl b
  | _, _, .int i => .int i
  | _, _, .str x => .str x
  | _, _, .tup h r => .tup h (TpAll.dp r)
theorem TpAll.dp : ∀ {vs : List V} {ds : List PyData}, TpAll K H vs ds → DpAll K H vs ds
  | _, _, .nil => .nil
  | _, _, .cons h r => .cons (Tp.dp h) (TpAll.dp r)
end
theorem TpAll.len {vs : List V} {ds : List PyData} (h : TpAll K H vs ds) : vs.length = ds.length := by
  induction vs generalizing ds with
  | nil => cases h; rfl
  | cons v vs ih => cases h with | cons a b => rw [List.length_cons, List.length_cons, ih b]
theorem TpAll.get {vs : List V} {ds : List PyData} (h : TpAll K H vs ds) : ∀ {i : Nat} {v : V}, vs[i]? = some v → ∃ d, ds[i]? = some d ∧ Tp K H v d := by
  induction vs generalizing ds with
  | nil => intro i v e; simp at e
  | cons v0 vs ih =>
    cases h with
    | cons a b =>
      intro i v e
      cases i with
      | zero => cases e; exact ⟨_, rfl, a⟩
      | succ i => exact ih b (i := i) (by simpa using e)
theorem TpAll.app {vs us : List V} {ds es : List PyData} (h : TpAll K H vs ds) (g : TpAll K H us es) : TpAll K H (vs ++ us) (ds ++ es) := by
  induction vs generalizing ds with
  | nil => cases h; exact g
  | cons v vs ih => cases h with | cons a b => exact .cons a (ih b)
theorem TpAll.strs : ∀ ws : List Str, TpAll K H (ws.map V.str) (ws.map PyData.str)
  | [] => .nil
  | w :: ws => .cons (.str w) (TpAll.strs ws)
theorem Tp.new {p : Addr} {ts : List V} {ds : List PyData} (n : H p = none) (h : TpAll K H ts ds) : Tp K (upd H p (.tup ts)) (.ref p) (.tuple ds) :=
  .tup (.of upd_same) (h.ex (.new (xs := []) n))
end

/-- a def whose code object is known: its generators' codes go into its own table -/
theorem okC {P : Program} {w : World} {K : PySem.W.Frag} {mg : Str → Option Value} {base : Heap} {x qual : Str} {st : Stmt} {f c : Addr} {N ps : List Str} {k : Nat} {sp : Sp}
    {oc : Value} {od an : Option Addr} {osl : Array (Option Value)} {kV doc pm ct : Value}
    (lk : K.lookup f = some ⟨oc, od, .func (PySem.W.fnOf x qual (defArgs st) (defBody st) (defScope st) .none kV doc pm an (.ref c) ct), osl⟩) (hc : PySem.W.codeIn K (.ref c) qual = true)
    (S : FnScope N ps (defScope st)) (len : ∀ vs H Q E, sp vs H Q E → vs.length = ps.length)
    (body : ∀ (A : Around) (outer : List Env) (s : Shared) (H : Hp) (vs : List V) (Q : VK) (E : XK), Room k (A.deeper (envOfC qual (defScope st) s.heap.objs.size f (.ref c))) → sp vs H Q E →
      ∃ t, PSs (cxOf CX0 P w K mg base N qual (defScope st) f (.ref c) A outer s H E).nox (defBody st) t ∧ t { nx := fun _ H' => Q .non H', rt := Q } (start N vs) H) :
    FnOk P w K mg base CX0 (k + 1) f (PySem.W.fnOf x qual (defArgs st) (defBody st) (defScope st) .none kV doc pm an (.ref c) ct) ps sp := by
  refine fn_of lk hc S len fun A outer s H vs Q E hr hsp => ?_
  obtain ⟨t, h, q⟩ := body A outer s H vs Q E hr hsp
  exact ⟨t, h.nox, q⟩
/-- a def that may be called: its promise, where it stands, how its arguments come -/
structure Cl (P : Program) (w : World) (K : PySem.W.Frag) (mg : Str → Option Value) (base : Heap) (k : Nat) (x : Str) (ps : List Str) (sp : Sp) (f : Addr) (fd : FuncData) : Prop where
  g : FnOk P w K mg base CX0 k f fd ps sp
  k : PySem.W.keepIn K (.ref f) = true
  b : Binds K fd ps []
  m : mg x = some (.ref f)
/-- where a def stands -/
structure At (K : PySem.W.Frag) (mg : Str → Option Value) (x : Str) (st : Stmt) (ps : List Str) (f : Addr) (fd : FuncData) : Prop where
  F : Fun K x x st f fd
  b : Binds K fd ps []
  m : mg x = some (.ref f)
theorem At.cl {P : Program} {w : World} {K : PySem.W.Frag} {mg : Str → Option Value} {base : Heap} {x : Str} {st : Stmt} {ps : List Str} {f : Addr} {fd : FuncData} {j k : Nat} {sp : Sp} (A : At K mg x st ps f fd) (g : FnOk P w K mg base CX0 j f fd ps sp) (h : j ≤ k) :
    Cl P w K mg base k x ps sp f fd := ⟨g.mono h, A.F.kp, A.b, A.m⟩
/-- nothing is promised of a call that never comes -/
theorem ok_never {P : Program} {w : World} {K : PySem.W.Frag} {mg : Str → Option Value} {base : Heap} {k : Nat} {ps : List Str} {f : Addr} {fd : FuncData} : FnOk P w K mg base CX0 k f fd ps (fun _ _ _ _ => False) :=
  ⟨fun _ _ _ _ h => h.elim, fun _ _ _ _ _ _ _ _ _ _ _ _ _ h => h.elim⟩
def rLenK (K : PySem.W.Frag) : List V → Hp → VK → Prop := fun xs H Q => ∃ p ys, xs = [V.ref p] ∧ (SqL K H p ys ∨ SqT K H p ys) ∧ Q (V.int ys.length) H
/-- within a comprehension: the written part is the def's own -/
theorem call_lenK {X : Cx} {K : PySem.W.Frag} (h : X.K = K) : CallR X (.builtin "len") (rLenK K) := by subst h; exact call_len_seq
theorem ix_listK {X : Cx} {K : PySem.W.Frag} (h : X.K = K) : IxR X (rIxL K) := by subst h; exact ix_list
theorem ix_tupK {X : Cx} {K : PySem.W.Frag} (h : X.K = K) : IxR X (rIxT K) := by subst h; exact ix_tup
theorem op_mul_str {X : Cx} : OpR X (binaryOp .Mult) (fun x y H Q => ∃ z n, x = .str z ∧ y = .int n ∧ MulOk z n ∧ Q (.str (Txt.mul z n)) H) := by
  intro pins s σ H x y v u Q I rx ry h
  obtain ⟨z, n, rfl, rfl, ok, q⟩ := h
  obtain ⟨t, rfl⟩ := rx
  obtain ⟨t', rfl⟩ := ry
  exact SB.mul ok fun t2 k => ⟨.str _, H, I.tok k, ⟨_, rfl⟩, q⟩
/-- a list held against the empty one -/
theorem op_eq_nil {X : Cx} {k : Nat} (hr : Room k X.A) : OpR X (compareOp .Eq) (fun x y H Q => ∃ a b xs, x = .ref a ∧ y = .ref b ∧ SqL X.K H a xs ∧ SqL X.K H b [] ∧ Q (.bl xs.isEmpty) H) := by
  intro pins s σ H x y v u Q I rx ry h
  obtain ⟨a, b, xs, rfl, rfl, ha, hb, q⟩ := h
  cases (show v = Value.ref a from rx)
  cases (show u = Value.ref b from ry)
  obtain ⟨its, r, pl, hz⟩ := I.list ha
  obtain ⟨its2, r2, pl2, hz2⟩ := I.list hb
  have e2 : its2 = [] := List.length_eq_zero_iff.mp r2.length.symm
  subst e2
  cases xs with
  | nil =>
    have e1 : its = [] := List.length_eq_zero_iff.mp r.length.symm
    subst e1
    exact SeqAt.eq_listAt (e := fun _ => true) pl.isList pl2.isList rfl hr.units0 (fun j h1 _ => absurd h1 (Nat.not_lt_zero j)) ⟨.bl true, H, I, rfl, q⟩
  | cons z zs =>
    have e1 : its.length = zs.length + 1 := r.length.symm
    refine SeqAt.eq_list_lengthsAt pl.isList pl2.isList ?_ hr.units0 ⟨.bl false, H, I, rfl, q⟩
    simp [e1]
end Kk

namespace Kk
open PySem PySem.Spec PyProof.Rows L2
/-! places: a text, then numbers -/
def plV (nm : Str) (p : List Nat) : List V := .str nm :: p.map fun n => V.int (n : Nat)
def plD (nm : Str) (p : List Nat) : PyData := .tuple (.str nm :: p.map fun n => PyData.int (n : Nat))
def plK (nm : Str) (p : List Nat) : List L2.Key := Sum.inr nm :: p.map fun n => Sum.inl ((n : Nat) : Int)
def plO (nm : Str) (p : List Nat) : List (Int ⊕ List Nat) := Sum.inr nm.cps.toList :: p.map fun n => Sum.inl ((n : Nat) : Int)
def leP (nm : Str) (p q : List Nat) : Prop := PyProof.Rows.lexLt PyProof.Rows.itemOrd (plO nm q) (plO nm p) = false
theorem plK_v (nm : Str) (p : List Nat) : (plK nm p).map kV = plV nm p := by
  unfold plK plV
  rw [List.map_cons, List.map_map]; rfl
theorem nat_map_inj {α : Type} {f : Nat → α} (hf : ∀ a b, f a = f b → a = b) : ∀ {p q : List Nat}, p.map f = q.map f → p = q
  | [], [], _ => rfl
  | [], _ :: _, h => by cases h
  | _ :: _, [], h => by cases h
  | a :: p, b :: q, h => by
    rw [List.map_cons, List.map_cons] at h
    obtain ⟨h1, h2⟩ := List.cons.inj h
    rw [hf a b h1, nat_map_inj hf h2]
theorem plK_inj {nm : Str} {p q : List Nat} (h : plK nm p = plK nm q) : p = q :=
  nat_map_inj (fun a b e => by have := Sum.inl.inj e; omega) (List.cons.inj h).2
theorem plO_inj {nm : Str} {p q : List Nat} (h : plO nm p = plO nm q) : p = q :=
  nat_map_inj (fun a b e => by have := Sum.inl.inj e; omega) (List.cons.inj h).2
theorem plD_inj {nm : Str} {p q : List Nat} (h : plD nm p = plD nm q) : p = q := by
  have h1 := PyData.tuple.inj h
  exact nat_map_inj (fun a b e => by have := PyData.int.inj e; omega) (List.cons.inj h1).2
theorem leP_anti {nm : Str} {p q : List Nat} (h : leP nm p q) (g : leP nm q p) : p = q :=
  plO_inj ((PyProof.Rows.listOrd PyProof.Rows.itemOrd).total _ _ g h)
theorem perm_uniq {α : Type} {R : α → α → Prop} (anti : ∀ a b, R a b → R b a → a = b) : ∀ {l m : List α}, l.Pairwise R → m.Pairwise R → l.Perm m → l = m
  | [], m, _, _, h => (List.Perm.eq_nil h.symm).symm
  | x :: l, [], _, _, h => absurd h.length_eq (by simp)
  | x :: l, y :: m, hl, hm, h => by
    have e : x = y := by
      rcases List.mem_cons.mp (h.mem_iff.mp (List.mem_cons_self (a := x) (l := l))) with e | hx
      · exact e
      · rcases List.mem_cons.mp (h.mem_iff.mpr (List.mem_cons_self (a := y) (l := m))) with e | hy
        · exact e.symm
        · exact anti x y (List.rel_of_pairwise_cons hl hy) (List.rel_of_pairwise_cons hm hx)
    subst e
    rw [perm_uniq anti (List.pairwise_cons.mp hl).2 (List.pairwise_cons.mp hm).2 h.cons_inv]
section
variable {K : PySem.W.Frag} {H : Hp}
theorem ints_inv : ∀ {xs : List V} {p : List Nat}, TpAll K H xs (p.map fun n => PyData.int (n : Nat)) → xs = p.map fun n => V.int (n : Nat)
  | _, [], h => by cases h; rfl
  | _, n :: p, h => by
    cases h with
    | cons a b => cases a; rw [ints_inv b]; rfl
theorem ints_all (p : List Nat) : TpAll K H (p.map fun n => V.int (n : Nat)) (p.map fun n => PyData.int (n : Nat)) := by
  induction p with
  | nil => exact .nil
  | cons n p ih => exact .cons (.int _) ih
theorem tp_pl {v : V} {nm : Str} {p : List Nat} (h : Tp K H v (plD nm p)) : ∃ a, v = .ref a ∧ SqT K H a (plV nm p) := by
  unfold plD at h
  cases h with
  | tup hs ha =>
    cases ha with
    | cons a1 a2 =>
      cases a1
      have e := ints_inv a2
      subst e
      exact ⟨_, rfl, hs⟩
theorem pl_tp {a : Addr} {nm : Str} {p : List Nat} (h : SqT K H a (plV nm p)) : Tp K H (.ref a) (plD nm p) := .tup h (.cons (.str _) (ints_all p))
end
/-! two lists, item by item -/
inductive P2 {α β : Type} (R : α → β → Prop) : List α → List β → Prop
  | nil : P2 R [] []
  | cons {a : α} {b : β} {l : List α} {m : List β} : R a b → P2 R l m → P2 R (a :: l) (b :: m)
theorem P2.perm {α β : Type} {R : α → β → Prop} {l l' : List α} (p : l.Perm l') : ∀ {m : List β}, P2 R l m → ∃ m', m.Perm m' ∧ P2 R l' m' := by
  induction p with
  | nil => intro m h; exact ⟨m, List.Perm.refl _, h⟩
  | cons x _ ih =>
    intro m h
    cases h with
    | cons a b =>
      obtain ⟨m', q, r⟩ := ih b
      exact ⟨_ :: m', q.cons _, .cons a r⟩
  | swap x y l =>
    intro m h
    cases h with
    | cons a b =>
      cases b with
      | cons c d => exact ⟨_, List.Perm.swap _ _ _, .cons c (.cons a d)⟩
  | trans _ _ ih1 ih2 =>
    intro m h
    obtain ⟨m1, q1, r1⟩ := ih1 h
    obtain ⟨m2, q2, r2⟩ := ih2 r1
    exact ⟨m2, q1.trans q2, r2⟩
theorem P2.get {α β : Type} {R : α → β → Prop} {l : List α} {m : List β} (h : P2 R l m) : ∀ {i : Nat} {b : β}, m[i]? = some b → ∃ a, l[i]? = some a ∧ R a b := by
  induction h with
  | nil => intro i b e; simp at e
  | cons a _ ih =>
    intro i b e
    cases i with
    | zero => cases e; exact ⟨_, rfl, a⟩
    | succ i => exact ih (i := i) (by simpa using e)
theorem P2.len {α β : Type} {R : α → β → Prop} {l : List α} {m : List β} (h : P2 R l m) : l.length = m.length := by
  induction h with
  | nil => rfl
  | cons _ _ ih => rw [List.length_cons, List.length_cons, ih]
section
variable {K : PySem.W.Frag} {H : Hp}
theorem P2.tp {nm : Str} : ∀ {us : List V} {ps : List (List Nat)}, P2 (fun v p => Tp K H v (plD nm p)) us ps → TpAll K H us (ps.map (plD nm))
  | _, _, .nil => .nil
  | _, _, .cons a b => .cons a (P2.tp b)
theorem tp_p2 {nm : Str} : ∀ {us : List V} {ps : List (List Nat)}, TpAll K H us (ps.map (plD nm)) → P2 (fun v p => Tp K H v (plD nm p)) us ps
  | _, [], h => by cases h; exact .nil
  | _, p :: ps, h => by
    cases h with
    | cons a b => exact .cons a (tp_p2 b)
end
/-- a place, tracked -/
def PlT (nm : Str) (H : Hp) (v : V) (p : List Nat) : Prop := ∃ a, v = .ref a ∧ H a = some (.tup (plV nm p))
theorem PlT.tp {K : PySem.W.Frag} {H : Hp} {nm : Str} {v : V} {p : List Nat} (h : PlT nm H v p) : Tp K H v (plD nm p) := by
  obtain ⟨a, rfl, h⟩ := h
  exact pl_tp (.of h)
theorem PlT.ex {xs : List Addr} {H H' : Hp} {nm : Str} {v : V} {p : List Nat} (h : PlT nm H v p) (e : Ex xs H H') : PlT nm H' v p := by
  obtain ⟨a, rfl, h⟩ := h
  exact ⟨a, rfl, e.tup h⟩
theorem P2.imp {α β : Type} {R S : α → β → Prop} {l : List α} {m : List β} (h : P2 R l m) (f : ∀ a b, R a b → S a b) : P2 S l m := by
  induction h with
  | nil => exact .nil
  | cons a _ ih => exact .cons (f _ _ a) ih
theorem P2.app {α β : Type} {R : α → β → Prop} {l l' : List α} {m m' : List β} (h : P2 R l m) (g : P2 R l' m') : P2 R (l ++ l') (m ++ m') := by
  induction h with
  | nil => exact g
  | cons a _ ih => exact .cons a ih
theorem P2.getL {α β : Type} {R : α → β → Prop} {l : List α} {m : List β} (h : P2 R l m) : ∀ {i : Nat} {a : α}, l[i]? = some a → ∃ b, m[i]? = some b ∧ R a b := by
  induction h with
  | nil => intro i b e; simp at e
  | cons a _ ih =>
    intro i b e
    cases i with
    | zero => cases e; exact ⟨_, rfl, a⟩
    | succ i => exact ih (i := i) (by simpa using e)
theorem P2.pls {K : PySem.W.Frag} {H : Hp} {nm : Str} {us : List V} {ps : List (List Nat)} (h : P2 (PlT nm H) us ps) : TpAll K H us (ps.map (plD nm)) := by
  induction h with
  | nil => exact .nil
  | cons a _ ih => exact .cons a.tp ih
def sh0 : Nat → Bool := fun i => i == 0
theorem sh_succ (i : Nat) : sh0 (i + 1) = false := rfl
theorem it_ints : ∀ (p : List Nat) (i : Nat) {its : List Value}, Vals (p.map fun n => V.int (n : Nat)) its → PyProof.Rows.tupItems sh0 (i + 1) its = some (p.map fun n => Sum.inl ((n : Nat) : Int))
  | [], i, _, h => by cases h; rfl
  | n :: p, i, _, h => by
    cases h with
    | cons a b =>
      obtain ⟨t, rfl⟩ := a
      unfold PyProof.Rows.tupItems
      rw [sh_succ, if_neg (by decide), it_ints p (i + 1) b]; rfl
theorem it_pl {nm : Str} {p : List Nat} {its : List Value} (h : Vals (plV nm p) its) : PyProof.Rows.tupItems sh0 0 its = some (plO nm p) := by
  unfold plV at h
  cases h with
  | cons a b =>
    obtain ⟨t, rfl⟩ := a
    unfold PyProof.Rows.tupItems
    rw [if_pos (show sh0 0 = true from rfl), it_ints p 0 b]; rfl
section
variable {X : Cx} {pins : List (Addr × Obj)} {σ : L2.St} {H : Hp} {s : Shared}
/-- what the sort sees of a place -/
theorem key_pl {u : Value} {nm : Str} {p : List Nat} (I : Inv X pins σ H s) (hT : PlT nm H (backV u) p) (hr : ∃ a, u = Value.ref a) :
    G.tupKeyC s.heap sh0 u = some (plO nm p) ∧ ∃ f, PyProof.Rows.TupOf s.heap sh0 u f := by
  obtain ⟨a, rfl⟩ := hr
  have h : Tp X.K H (backV (.ref a)) (plD nm p) := hT.tp
  obtain ⟨b, e, hs⟩ := tp_pl h
  cases e
  obtain ⟨its, r, ⟨o, ho, hc, n, hd⟩, hz⟩ := I.tuple hs
  refine ⟨?_, ?_⟩
  · unfold G.tupKeyC
    have e1 : G.isTupObj s.heap (.ref a) = true := by simp [G.isTupObj, ho, hc]
    rw [if_pos e1]
    simp only [PyProof.Rows.tupKey, ho, hd]
    exact it_pl r
  · unfold plV at r
    cases r with
    | cons r1 r2 =>
      obtain ⟨t, rfl⟩ := r1
      exact ⟨_, a, o, _, n, rfl, ho, hc, hd, rfl, fun z => (by cases z), fun _ => ⟨_, _, rfl⟩⟩
theorem tups_pl {nm : Str} (I : Inv X pins σ H s) : ∀ {us : List Value} {ps : List (List Nat)}, P2 (PlT nm H) (us.map backV) ps → (∀ u ∈ us, ∃ a, u = Value.ref a) → ∃ fs, PyProof.Rows.TupsOf s.heap sh0 us fs
  | [], _, _, _ => ⟨[], .nil⟩
  | u :: us, _, h, hr => by
    rw [List.map_cons] at h
    cases h with
    | cons a b =>
      obtain ⟨f, hf⟩ := (key_pl I a (hr u List.mem_cons_self)).2
      obtain ⟨fs, hfs⟩ := tups_pl I b fun v hv => hr v (List.mem_cons_of_mem _ hv)
      exact ⟨f :: fs, .cons hf hfs⟩
theorem P2.memL {α β : Type} {R : α → β → Prop} {l : List α} {m : List β} (h : P2 R l m) {a : α} (ha : a ∈ l) : ∃ b, b ∈ m ∧ R a b := by
  induction h with
  | nil => cases ha
  | cons r _ ih =>
    rcases List.mem_cons.mp ha with e | e
    · rw [e]; exact ⟨_, List.mem_cons_self, r⟩
    · obtain ⟨b, h1, h2⟩ := ih e
      exact ⟨b, List.mem_cons_of_mem _ h1, h2⟩
/-- what a sort of places tells -/
theorem srt_pl {nm : Str} {vs : List Value} {ps : List (List Nat)} {arr : Array Keyed} (I : Inv X pins σ H s) (h : P2 (PlT nm H) (vs.map backV) ps) (hr : ∀ u ∈ vs, ∃ a, u = Value.ref a)
    (hp : arr.Perm (pairsOf vs)) (hs : SortedToK (G.tupKindC s.heap sh0) arr (pairsOf vs).size) :
    ∃ qs, qs.Perm ps ∧ qs.Pairwise (leP nm) ∧ P2 (PlT nm H) ((arr.map (·.2)).toList.map backV) qs ∧ (∀ u ∈ (arr.map (·.2)).toList, ∃ a, u = Value.ref a) ∧ (arr.map (·.2)).toList.length = vs.length := by
  have pl : arr.toList.Perm (vs.zip vs) := by
    have e := Array.perm_iff_toList_perm.mp hp
    rwa [pairsOf_toList] at e
  have po : (arr.map (·.2)).toList.Perm vs := by
    rw [Array.toList_map]
    have z := pl.map Prod.snd
    rwa [List.map_snd_zip (Nat.le_refl _)] at z
  have hr2 : ∀ u ∈ (arr.map (·.2)).toList, ∃ a, u = Value.ref a := fun u hu => hr u (po.mem_iff.mp hu)
  obtain ⟨qs, q1, q2⟩ := P2.perm (po.symm.map backV) h
  refine ⟨qs, q1.symm, ?_, q2, hr2, po.length_eq⟩
  have hlen : qs.length = vs.length := by
    have := q2.len
    rw [List.length_map, po.length_eq] at this
    exact this.symm
  have key : ∀ (i : Nat) (q : List Nat), qs[i]? = some q → KK (G.tupKindC s.heap sh0) arr i = plO nm q := fun i q hq => by
    obtain ⟨v, hv, tv⟩ := q2.get hq
    rw [List.getElem?_map, Array.toList_map, List.getElem?_map, Array.getElem?_toList] at hv
    cases hk : arr[i]? with
    | none => rw [hk] at hv; cases hv
    | some kd =>
      rw [hk] at hv
      cases hv
      have hm : kd ∈ arr.toList := List.mem_of_getElem? (by rw [Array.getElem?_toList]; exact hk)
      obtain ⟨e1, e2⟩ := mem_zip_self (pl.mem_iff.mp hm)
      have tv : PlT nm H (backV kd.2) q := tv
      have := (key_pl I tv (by rw [← e1]; exact hr _ e2)).1
      unfold KK
      rw [hk]
      show (G.tupKeyC s.heap sh0 kd.1).getD _ = _
      rw [e1, this]; rfl
  rw [List.pairwise_iff_getElem]
  intro i j hi hj hij
  have := hs i j (Nat.le_of_lt hij) (by rw [pairsOf_size]; omega)
  rw [key i _ (List.getElem?_eq_getElem hi), key j _ (List.getElem?_eq_getElem hj)] at this
  exact this
end
section
variable {X : Cx}
/-- sorted(a list of places) -/
def rSortP (K : PySem.W.Frag) : List V → Hp → VK → Prop := fun vs H Q => ∃ (a : Addr) (us : List V) (nm : Str) (ps : List (List Nat)), vs = [V.ref a] ∧ SqL K H a us ∧ P2 (PlT nm H) us ps ∧
  ∀ (ys : List V) (qs : List (List Nat)) (p : Addr), qs.Perm ps → qs.Pairwise (leP nm) → P2 (PlT nm H) ys qs → H p = none → Q (.ref p) (upd H p (.lst ys))
theorem cr_sortP : CallR X (.builtin "sorted") (rSortP X.K) := by
  intro pins s σ H vs us Q I r h
  obtain ⟨a, xs, nm, ps, rfl, hs, ht, q⟩ := h
  obtain ⟨its, rv, hl, hz⟩ := I.list hs
  obtain ⟨u, rfl, ru⟩ := vals1 r
  obtain rfl : u = Value.ref a := ru
  have h2 := ht
  obtain ⟨e1, e2⟩ := refs_back rv fun x m => by
    obtain ⟨p, _, tp⟩ := h2.memL m
    obtain ⟨t, e, _⟩ := tp
    exact ⟨t, e⟩
  rw [e1] at h2
  obtain ⟨fs, hfs⟩ := tups_pl I h2 e2
  refine G.sorted_tups (shape := sh0) (fs := fs) hl.isList hfs (fun v hv => ?_) (by rw [← rv.length]; exact hz) fun st' hp hso _ => ?_
  · obtain ⟨p, _, tp⟩ := h2.memL (List.mem_map_of_mem (f := backV) hv)
    exact ⟨_, (key_pl I tp (e2 v hv)).1⟩
  · obtain ⟨qs, q1, q3, q4, q5, q6⟩ := srt_pl I h2 e2 hp hso
    obtain ⟨ep, he'⟩ := sortedAll_at s.heap its ((arrOf st').map (·.2))
    have hlen : (((arrOf st').map (·.2)).toList.map backV).length ≤ sizeLine := by
      rw [List.length_map, q6, ← rv.length]; exact hz
    refine ⟨.ref _, upd H (s.heap.objs.size + 1) (.lst (((arrOf st').map (·.2)).toList.map backV)), I.laid (t' := s.toks) (fun _ _ z => sortedAll_old z) (Nat.le_succ _) ⟨hlen, ((arrOf st').map (·.2)).toList, ep, vals_back q5, ?_⟩, rfl,
      q _ qs _ q1 q3 q4 (I.hok.fresh (Nat.le_succ _))⟩
    rw [Array.toArray_toList]; exact he'
/-- the keys of a dict of places -/
def KeysP (nm : Str) (kvs : List (List L2.Key × V)) (ps : List (List Nat)) : Prop := kvs.map (·.1) = ps.map (plK nm)
theorem p2_keys {nm : Str} {H : Hp} : ∀ {kvs : List (List L2.Key × V)} {ks : List (List L2.Key × Addr × Value)} {ps : List (List Nat)}, L2.KT H kvs ks → KeysP nm kvs ps → P2 (PlT nm H) ((ks.map fun x => Value.ref x.2.1).map backV) ps
  | [], _, ps, r, e => by
    cases r
    cases ps with
    | nil => exact .nil
    | cons _ _ => cases e
  | kv :: kvs, _, ps, r, e => by
    cases r with
    | cons h t =>
      cases ps with
      | nil => cases e
      | cons p ps =>
        unfold KeysP at e
        rw [List.map_cons, List.map_cons] at e
        obtain ⟨e1, e2⟩ := List.cons.inj e
        refine .cons ?_ (p2_keys t e2)
        have h2 := h.2.1
        rw [e1, plK_v] at h2
        exact ⟨_, rfl, h2⟩
/-- sorted(a dict of places) -/
def rSortDP : List V → Hp → VK → Prop := fun vs H Q => ∃ (a : Addr) (kvs : List (List L2.Key × V)) (nm : Str) (ps : List (List Nat)), vs = [V.ref a] ∧ H a = some (.dT kvs) ∧ KeysP nm kvs ps ∧
  ∀ (ys : List V) (qs : List (List Nat)) (p : Addr), qs.Perm ps → qs.Pairwise (leP nm) → P2 (PlT nm H) ys qs → H p = none → Q (.ref p) (upd H p (.lst ys))
theorem cr_sortDP (hcalm : X.calm = true) : CallR X (.builtin "sorted") rSortDP := by
  intro pins s σ H vs us Q I r h
  obtain ⟨d, kvs, nm, ps, rfl, hd, hk, q⟩ := h
  obtain ⟨u, rfl, ru⟩ := vals1 r
  obtain rfl : u = Value.ref d := ru
  obtain ⟨z, hs, ks, pr, o, es, ep, ho, hx, hdt, he, hn⟩ := (show ObjOk X.prog X.w H s.heap d (.dT kvs) from I.hok d _ hd)
  have l1 : es.size = ks.length := size_of_entries he
  have l2 : kvs.length = ks.length := Paired.length pr
  refine Calls.call_function_entry kind_sorted plain_sorted entry_sorted (args_sorted1 _) ?_
  unfold Builtin.«sorted»
  refine wpAny_bind (m := checkCount "sorted" 1 1 _) (wpAny_pure ?_)
  refine wpAny_bind (PySem.W.kdu_collect (A := X.A.in1) (kdl_raw hs hx hdt) (I.ok.hd hcalm) ho (by omega) fun h' tk acc kp it => ?_)
  have ea : acc.toList = ks.map fun x => Value.ref x.2.1 := by
    have hl : acc.toList.length = ks.length := by rw [Array.length_toList, it.1]; exact l1
    refine List.ext_getElem? fun j => ?_
    rw [List.getElem?_map]
    cases hj : acc.toList[j]? with
    | none =>
      have h1 := List.getElem?_eq_none_iff.mp hj
      rw [List.getElem?_eq_none (show ks.length ≤ j by omega)]; rfl
    | some v =>
      obtain ⟨en, hen, hv⟩ := it.2 j v (by rw [← Array.getElem?_toList]; exact hj)
      have qe := entry_at he j
      rw [hen] at qe
      cases hb : ks[j]? with
      | none => rw [hb] at qe; cases qe
      | some b =>
        rw [hb] at qe
        have e2 := Option.some.inj qe
        rw [hv, e2]; rfl
  have h2 : P2 (PlT nm H) (acc.toList.map backV) ps := by rw [ea]; exact p2_keys pr hk
  have e2 : ∀ u ∈ acc.toList, ∃ a, u = Value.ref a := fun u hu => by
    rw [ea] at hu
    obtain ⟨x, _, e⟩ := List.mem_map.mp hu
    exact ⟨_, e.symm⟩
  have hal : acc.toList.length ≤ sizeLine := by rw [ea, List.length_map]; omega
  have I1 : Inv X pins σ H { s with heap := h', toks := tk } := I.kept kp
  have I2 : Inv X pins σ H { s with heap := h'.push (seqObj "list" acc.toList.toArray 0), toks := tk } := I1.kept (t' := tk) fun b u e => Heap.get?_push_of_some _ e
  refine wpAny_bind (wpAny_newList ?_ hal)
  have hoL : (h'.push (seqObj "list" acc.toList.toArray 0)).get? h'.objs.size = some (seqObj "list" acc.toList.toArray 0) := Heap.get?_push_size _ rfl
  show wpAny _ _ _ _ _ { s with heap := h'.push (seqObj "list" acc.toList.toArray 0), toks := tk }
  obtain ⟨fs, hfs⟩ := tups_pl I2 h2 e2
  refine wpAny_bind (wpAny_holding (wpAny_call_entry slot_list_sort ⟨_, hoL, rfl⟩ entry_list_sort
    (G.list_sort_tups (s := { s with heap := h'.push (seqObj "list" acc.toList.toArray 0), toks := tk }) (shape := sh0) (fs := fs) hoL hfs (fun v hv => ?_) hal fun st' hp hso _ => ⟨_, rfl, ?_⟩) (args_list_sort _)))
  · obtain ⟨p, _, tp⟩ := h2.memL (List.mem_map_of_mem (f := backV) hv)
    exact ⟨_, (key_pl I2 tp (e2 v hv)).1⟩
  · obtain ⟨qs, q1, q3, q4, q5, q6⟩ := srt_pl I2 h2 e2 hp hso
    obtain ⟨e', he'⟩ := sortedHeap_at (vs := acc.toList) (out := (arrOf st').map (·.2)) hoL
    have hlen : (((arrOf st').map (·.2)).toList.map backV).length ≤ sizeLine := by
      rw [List.length_map, q6]; exact hal
    refine wpAny_pure ⟨_, rfl, .ref h'.objs.size, upd H h'.objs.size (.lst (((arrOf st').map (·.2)).toList.map backV)), I1.laid (t' := tk) (fun b u e => ?_) (Nat.le_refl _)
      (show ObjOk X.prog X.w _ _ _ (.lst (((arrOf st').map (·.2)).toList.map backV)) from ⟨hlen, ((arrOf st').map (·.2)).toList, e', vals_back q5, by rw [Array.toArray_toList]; exact he'⟩), rfl, q _ qs _ q1 q3 q4 (I1.hok.fresh (Nat.le_refl _))⟩
    have hb : b < h'.objs.size := Heap.lt_size e
    rw [sortedHeap_old (Nat.ne_of_lt hb) (by rw [size_push']; exact Nat.lt_succ_of_lt hb)]
    exact Heap.get?_push_of_some _ e
end
end Kk

namespace Kk
open PySem PySem.Spec PyProof.Rows L2
/-! as KSortT, each with a text of its own -/
def PlQ (H : Hp) (v : V) (q : Str × List Nat) : Prop := PlT q.1 H v q.2
def leQ (p q : Str × List Nat) : Prop := PyProof.Rows.lexLt PyProof.Rows.itemOrd (plO q.1 q.2) (plO p.1 p.2) = false
theorem plO_injQ {p q : Str × List Nat} (h : plO p.1 p.2 = plO q.1 q.2) : p = q := by
  obtain ⟨a, b⟩ := p
  obtain ⟨c, d⟩ := q
  have h1 := (List.cons.inj h).1
  have h2 := (List.cons.inj h).2
  have e2 := nat_map_inj (fun a b e => by have := Sum.inl.inj e; omega) h2
  have e1 : a = c := TL.ext_tl (Sum.inr.inj h1)
  simp only at e2
  rw [e1, e2]
theorem leQ_anti {p q : Str × List Nat} (h : leQ p q) (g : leQ q p) : p = q := plO_injQ ((PyProof.Rows.listOrd PyProof.Rows.itemOrd).total _ _ g h)
section
variable {X : Cx} {pins : List (Addr × Obj)} {σ : L2.St} {H : Hp} {s : Shared}
theorem tups_q (I : Inv X pins σ H s) : ∀ {us : List Value} {ps : List (Str × List Nat)}, P2 (PlQ H) (us.map backV) ps → (∀ u ∈ us, ∃ a, u = Value.ref a) → ∃ fs, PyProof.Rows.TupsOf s.heap sh0 us fs
  | [], _, _, _ => ⟨[], .nil⟩
  | u :: us, _, h, hr => by
    rw [List.map_cons] at h
    cases h with
    | cons a b =>
      obtain ⟨f, hf⟩ := (key_pl I a (hr u List.mem_cons_self)).2
      obtain ⟨fs, hfs⟩ := tups_q I b fun v hv => hr v (List.mem_cons_of_mem _ hv)
      exact ⟨f :: fs, .cons hf hfs⟩
/-- what a sort of places tells -/
theorem srt_q {vs : List Value} {ps : List (Str × List Nat)} {arr : Array Keyed} (I : Inv X pins σ H s) (h : P2 (PlQ H) (vs.map backV) ps) (hr : ∀ u ∈ vs, ∃ a, u = Value.ref a)
    (hp : arr.Perm (pairsOf vs)) (hs : SortedToK (G.tupKindC s.heap sh0) arr (pairsOf vs).size) :
    ∃ qs, qs.Perm ps ∧ qs.Pairwise leQ ∧ P2 (PlQ H) ((arr.map (·.2)).toList.map backV) qs ∧ (∀ u ∈ (arr.map (·.2)).toList, ∃ a, u = Value.ref a) ∧ (arr.map (·.2)).toList.length = vs.length := by
  have pl : arr.toList.Perm (vs.zip vs) := by
    have e := Array.perm_iff_toList_perm.mp hp
    rwa [pairsOf_toList] at e
  have po : (arr.map (·.2)).toList.Perm vs := by
    rw [Array.toList_map]
    have z := pl.map Prod.snd
    rwa [List.map_snd_zip (Nat.le_refl _)] at z
  have hr2 : ∀ u ∈ (arr.map (·.2)).toList, ∃ a, u = Value.ref a := fun u hu => hr u (po.mem_iff.mp hu)
  obtain ⟨qs, q1, q2⟩ := P2.perm (po.symm.map backV) h
  refine ⟨qs, q1.symm, ?_, q2, hr2, po.length_eq⟩
  have hlen : qs.length = vs.length := by
    have := q2.len
    rw [List.length_map, po.length_eq] at this
    exact this.symm
  have key : ∀ (i : Nat) (q : Str × List Nat), qs[i]? = some q → KK (G.tupKindC s.heap sh0) arr i = plO q.1 q.2 := fun i q hq => by
    obtain ⟨v, hv, tv⟩ := q2.get hq
    rw [List.getElem?_map, Array.toList_map, List.getElem?_map, Array.getElem?_toList] at hv
    cases hk : arr[i]? with
    | none => rw [hk] at hv; cases hv
    | some kd =>
      rw [hk] at hv
      cases hv
      have hm : kd ∈ arr.toList := List.mem_of_getElem? (by rw [Array.getElem?_toList]; exact hk)
      obtain ⟨e1, e2⟩ := mem_zip_self (pl.mem_iff.mp hm)
      have tv : PlT q.1 H (backV kd.2) q.2 := tv
      have := (key_pl I tv (by rw [← e1]; exact hr _ e2)).1
      unfold KK
      rw [hk]
      show (G.tupKeyC s.heap sh0 kd.1).getD _ = _
      rw [e1, this]; rfl
  rw [List.pairwise_iff_getElem]
  intro i j hi hj hij
  have := hs i j (Nat.le_of_lt hij) (by rw [pairsOf_size]; omega)
  rw [key i _ (List.getElem?_eq_getElem hi), key j _ (List.getElem?_eq_getElem hj)] at this
  exact this
end
section
variable {X : Cx}
/-- sorted(a list of places) -/
def rSortQ (K : PySem.W.Frag) : List V → Hp → VK → Prop := fun vs H Q => ∃ (a : Addr) (us : List V) (ps : List (Str × List Nat)), vs = [V.ref a] ∧ SqL K H a us ∧ P2 (PlQ H) us ps ∧
  ∀ (ys : List V) (qs : List (Str × List Nat)) (p : Addr), qs.Perm ps → qs.Pairwise leQ → P2 (PlQ H) ys qs → H p = none → Q (.ref p) (upd H p (.lst ys))
theorem cr_sortQ : CallR X (.builtin "sorted") (rSortQ X.K) := by
  intro pins s σ H vs us Q I r h
  obtain ⟨a, xs, ps, rfl, hs, ht, q⟩ := h
  obtain ⟨its, rv, hl, hz⟩ := I.list hs
  obtain ⟨u, rfl, ru⟩ := vals1 r
  obtain rfl : u = Value.ref a := ru
  have h2 := ht
  obtain ⟨e1, e2⟩ := refs_back rv fun x m => by
    obtain ⟨p, _, tp⟩ := h2.memL m
    obtain ⟨t, e, _⟩ := tp
    exact ⟨t, e⟩
  rw [e1] at h2
  obtain ⟨fs, hfs⟩ := tups_q I h2 e2
  refine G.sorted_tups (shape := sh0) (fs := fs) hl.isList hfs (fun v hv => ?_) (by rw [← rv.length]; exact hz) fun st' hp hso _ => ?_
  · obtain ⟨p, _, tp⟩ := h2.memL (List.mem_map_of_mem (f := backV) hv)
    exact ⟨_, (key_pl I tp (e2 v hv)).1⟩
  · obtain ⟨qs, q1, q3, q4, q5, q6⟩ := srt_q I h2 e2 hp hso
    obtain ⟨ep, he'⟩ := sortedAll_at s.heap its ((arrOf st').map (·.2))
    have hlen : (((arrOf st').map (·.2)).toList.map backV).length ≤ sizeLine := by
      rw [List.length_map, q6, ← rv.length]; exact hz
    refine ⟨.ref _, upd H (s.heap.objs.size + 1) (.lst (((arrOf st').map (·.2)).toList.map backV)), I.laid (t' := s.toks) (fun _ _ z => sortedAll_old z) (Nat.le_succ _) ⟨hlen, ((arrOf st').map (·.2)).toList, ep, vals_back q5, ?_⟩, rfl,
      q _ qs _ q1 q3 q4 (I.hok.fresh (Nat.le_succ _))⟩
    rw [Array.toArray_toList]; exact he'
/-- the keys of a dict of places -/
def KeysQ (kvs : List (List L2.Key × V)) (ps : List (Str × List Nat)) : Prop := kvs.map (·.1) = ps.map (fun q : Str × List Nat => plK q.1 q.2)
theorem p2_keysQ {H : Hp} : ∀ {kvs : List (List L2.Key × V)} {ks : List (List L2.Key × Addr × Value)} {ps : List (Str × List Nat)}, L2.KT H kvs ks → KeysQ kvs ps → P2 (PlQ H) ((ks.map fun x => Value.ref x.2.1).map backV) ps
  | [], _, ps, r, e => by
    cases r
    cases ps with
    | nil => exact .nil
    | cons _ _ => cases e
  | kv :: kvs, _, ps, r, e => by
    cases r with
    | cons h t =>
      cases ps with
      | nil => cases e
      | cons p ps =>
        unfold KeysQ at e
        rw [List.map_cons, List.map_cons] at e
        obtain ⟨e1, e2⟩ := List.cons.inj e
        refine .cons ?_ (p2_keysQ t e2)
        have h2 := h.2.1
        rw [e1, plK_v] at h2
        exact ⟨_, rfl, h2⟩
/-- sorted(a dict of places) -/
def rSortDQ : List V → Hp → VK → Prop := fun vs H Q => ∃ (a : Addr) (kvs : List (List L2.Key × V)) (ps : List (Str × List Nat)), vs = [V.ref a] ∧ H a = some (.dT kvs) ∧ KeysQ kvs ps ∧
  ∀ (ys : List V) (qs : List (Str × List Nat)) (p : Addr), qs.Perm ps → qs.Pairwise leQ → P2 (PlQ H) ys qs → H p = none → Q (.ref p) (upd H p (.lst ys))
theorem cr_sortDQ (hcalm : X.calm = true) : CallR X (.builtin "sorted") rSortDQ := by
  intro pins s σ H vs us Q I r h
  obtain ⟨d, kvs, ps, rfl, hd, hk, q⟩ := h
  obtain ⟨u, rfl, ru⟩ := vals1 r
  obtain rfl : u = Value.ref d := ru
  obtain ⟨z, hs, ks, pr, o, es, ep, ho, hx, hdt, he, hn⟩ := (show ObjOk X.prog X.w H s.heap d (.dT kvs) from I.hok d _ hd)
  have l1 : es.size = ks.length := size_of_entries he
  have l2 : kvs.length = ks.length := Paired.length pr
  refine Calls.call_function_entry kind_sorted plain_sorted entry_sorted (args_sorted1 _) ?_
  unfold Builtin.«sorted»
  refine wpAny_bind (m := checkCount "sorted" 1 1 _) (wpAny_pure ?_)
  refine wpAny_bind (PySem.W.kdu_collect (A := X.A.in1) (kdl_raw hs hx hdt) (I.ok.hd hcalm) ho (by omega) fun h' tk acc kp it => ?_)
  have ea : acc.toList = ks.map fun x => Value.ref x.2.1 := by
    have hl : acc.toList.length = ks.length := by rw [Array.length_toList, it.1]; exact l1
    refine List.ext_getElem? fun j => ?_
    rw [List.getElem?_map]
    cases hj : acc.toList[j]? with
    | none =>
      have h1 := List.getElem?_eq_none_iff.mp hj
      rw [List.getElem?_eq_none (show ks.length ≤ j by omega)]; rfl
    | some v =>
      obtain ⟨en, hen, hv⟩ := it.2 j v (by rw [← Array.getElem?_toList]; exact hj)
      have qe := entry_at he j
      rw [hen] at qe
      cases hb : ks[j]? with
      | none => rw [hb] at qe; cases qe
      | some b =>
        rw [hb] at qe
        have e2 := Option.some.inj qe
        rw [hv, e2]; rfl
  have h2 : P2 (PlQ H) (acc.toList.map backV) ps := by rw [ea]; exact p2_keysQ pr hk
  have e2 : ∀ u ∈ acc.toList, ∃ a, u = Value.ref a := fun u hu => by
    rw [ea] at hu
    obtain ⟨x, _, e⟩ := List.mem_map.mp hu
    exact ⟨_, e.symm⟩
  have hal : acc.toList.length ≤ sizeLine := by rw [ea, List.length_map]; omega
  have I1 : Inv X pins σ H { s with heap := h', toks := tk } := I.kept kp
  have I2 : Inv X pins σ H { s with heap := h'.push (seqObj "list" acc.toList.toArray 0), toks := tk } := I1.kept (t' := tk) fun b u e => Heap.get?_push_of_some _ e
  refine wpAny_bind (wpAny_newList ?_ hal)
  have hoL : (h'.push (seqObj "list" acc.toList.toArray 0)).get? h'.objs.size = some (seqObj "list" acc.toList.toArray 0) := Heap.get?_push_size _ rfl
  show wpAny _ _ _ _ _ { s with heap := h'.push (seqObj "list" acc.toList.toArray 0), toks := tk }
  obtain ⟨fs, hfs⟩ := tups_q I2 h2 e2
  refine wpAny_bind (wpAny_holding (wpAny_call_entry slot_list_sort ⟨_, hoL, rfl⟩ entry_list_sort
    (G.list_sort_tups (s := { s with heap := h'.push (seqObj "list" acc.toList.toArray 0), toks := tk }) (shape := sh0) (fs := fs) hoL hfs (fun v hv => ?_) hal fun st' hp hso _ => ⟨_, rfl, ?_⟩) (args_list_sort _)))
  · obtain ⟨p, _, tp⟩ := h2.memL (List.mem_map_of_mem (f := backV) hv)
    exact ⟨_, (key_pl I2 tp (e2 v hv)).1⟩
  · obtain ⟨qs, q1, q3, q4, q5, q6⟩ := srt_q I2 h2 e2 hp hso
    obtain ⟨e', he'⟩ := sortedHeap_at (vs := acc.toList) (out := (arrOf st').map (·.2)) hoL
    have hlen : (((arrOf st').map (·.2)).toList.map backV).length ≤ sizeLine := by
      rw [List.length_map, q6]; exact hal
    refine wpAny_pure ⟨_, rfl, .ref h'.objs.size, upd H h'.objs.size (.lst (((arrOf st').map (·.2)).toList.map backV)), I1.laid (t' := tk) (fun b u e => ?_) (Nat.le_refl _)
      (show ObjOk X.prog X.w _ _ _ (.lst (((arrOf st').map (·.2)).toList.map backV)) from ⟨hlen, ((arrOf st').map (·.2)).toList, e', vals_back q5, by rw [Array.toArray_toList]; exact he'⟩), rfl, q _ qs _ q1 q3 q4 (I1.hok.fresh (Nat.le_refl _))⟩
    have hb : b < h'.objs.size := Heap.lt_size e
    rw [sortedHeap_old (Nat.ne_of_lt hb) (by rw [size_push']; exact Nat.lt_succ_of_lt hb)]
    exact Heap.get?_push_of_some _ e
end
end Kk

namespace Kk
open PySem PySem.Spec PyProof.Rows L2
/-! d.get(k, x) of a dict of the written part; a statement that is never reached -/
def tKGet2 (K : PySem.W.Frag) (w : World) (td ty tx : TE) : TE := fun σ H Q => td σ H fun x H1 => ∃ a es n, x = .ref a ∧ KDict K w a es n ∧ ty σ H1 fun y H2 => tx σ H2 fun z H3 => ∃ (k : Str) (o : Option Value) (v : V), y = .str k ∧ PySem.W.nsIn K a k = some o ∧
  (∀ u, o = some u → RelV v u) ∧ (o = none → v = z) ∧ Q v H3
section
variable {X : Cx} {o e f : Expr} {apos cpos : Pos} {td ty tx : TE}
theorem pe_kget2 (ho : PE X o td) (he : PE X e ty) (hf : PE X f tx) (m : M2 X o "get" apos e f cpos) : PE X (.Call (.Attribute o "get" apos) [e, f] [] cpos) (tKGet2 X.K X.w td ty tx) := by
  refine ⟨fun pins s σ H Q I h => ?_⟩
  refine wpAny_Call_method m.base m.few m.line PySem.F.plainAttrs_dict PySem.F.slot_dict_get PySem.F.type_dict_get (thn (ho.run pins s σ H _ I h) fun u s1 ⟨x, H1, I1, rx, a, es, n, ex, D, q1⟩ => ?_)
  subst ex
  obtain rfl : u = Value.ref a := rx
  have hm1 := PySem.W.mapOf_K (prog := X.prog) (w := X.w) I1.kIn D.at_ D.lit
  refine ⟨hm1.typeIs, fun b q => ?_, ?_⟩
  · cases q
    exact ⟨_, I1.kIn _ _ D.at_, rfl⟩
  rw [m.trees]
  refine Calls.callWith_builtin rfl (Calls.evalArgs_plain (Calls.spliced_cons (thn (he.run pins s1 σ H1 _ I1 q1) fun iv s2 ⟨y, H2, I2, ry, q2⟩ =>
    Calls.spliced_cons (thn (hf.run pins s2 σ H2 _ I2 q2) fun fv s3 ⟨z, H3, I3, rz, k, ov, v, ey, hn, h1, h2, q3⟩ => Calls.spliced_nil ?_))))
  subst ey
  obtain ⟨t, rfl⟩ := (show ∃ t, iv = Value.str k t from ry)
  have hm := PySem.W.mapOf_K (prog := X.prog) (w := X.w) I3.kIn D.at_ D.lit
  refine call_meetsIn PySem.F.slot_dict_get hm.typeIs PySem.F.entry_dict_get (PySem.F.args_dict_get_3 _ _ _) (meets_dict_get_default (PySem.strKind X.prog X.w) a (strKind_is X.prog X.w k t) D.low fv) ⟨_, hm, ?_⟩
  refine ⟨v, H3, I3.tok _, ?_, q3⟩
  show RelV v ((findBy Value.isStrOf es k).getD fv)
  rw [PySem.W.find_K D.at_ hn]
  cases ov with
  | none => rw [h2 rfl]; exact rz
  | some u => exact h1 u rfl
end
theorem ps_nv {X : Cx} {st : Stmt} : PS X st (fun _ _ _ => False) := ⟨fun _ _ _ _ _ _ q => q.elim⟩
theorem PS.by {X : Cx} {st : Stmt} {t t' : TS} (h : PS X st t) (imp : ∀ D σ H, t' D σ H → t D σ H) : PS X st t' := ⟨fun pins s σ H D I q => h.run pins s σ H D I (imp D σ H q)⟩
theorem PE.by {X : Cx} {e : Expr} {t t' : TE} (h : PE X e t) (imp : ∀ σ H Q, t' σ H Q → t σ H Q) : PE X e t' := ⟨fun pins s σ H Q I q => h.run pins s σ H Q I (imp σ H Q q)⟩
end Kk

set_option maxHeartbeats 4000000
namespace Kk
open PySem PySem.Spec PyProof.Rows L2
/-! sets of texts -/
def kS (e : Int × Value) : Str := match e.2 with | .str x _ => x | _ => Str.empty
def GS (w : World) (e : Int × Value) : Prop := ∃ x tk, e.2 = Value.str x tk ∧ e.1 = hashStr w x
/-- the set at a: the texts of L -/
def SR (w : World) (h : Heap) (a : Addr) (L : List Str) (n : Nat) : Prop :=
  ∃ o es ep t, h.get? a = some o ∧ o.ExactSet ∧ o.data = .set es ep t ∧ (∀ e ∈ es.toList, GS w e) ∧ (es.toList.map kS).Nodup ∧ (∀ k, k ∈ L ↔ k ∈ es.toList.map kS) ∧
    es.size < scanBound ∧ t.fits es.size = true ∧ es.size = n ∧ Ris t.place.toList ∧ (w.params.followText "set-order" = true ∨ t.led = true)
theorem SR.at {w : World} {h h' : Heap} {a : Addr} {L : List Str} {n : Nat} (R : SR w h a L n) (k : ∀ o, h.get? a = some o → h'.get? a = some o) : SR w h' a L n := by
  obtain ⟨o, es, ep, t, ho, rest⟩ := R
  exact ⟨o, es, ep, t, k o ho, rest⟩
theorem sub_len : ∀ (l B : List Str), l.Nodup → (∀ x ∈ l, x ∈ B) → l.length ≤ B.length
  | [], _, _, _ => Nat.zero_le _
  | x :: l, B, nd, h => by
    obtain ⟨h1, h2⟩ := List.nodup_cons.mp nd
    have hx := h x (List.mem_cons_self ..)
    have ih := sub_len l (B.erase x) h2 fun y hy => by
      have ne : y ≠ x := fun z => h1 (z ▸ hy)
      exact (List.mem_erase_of_ne ne).mpr (h y (List.mem_cons_of_mem _ hy))
    rw [List.length_erase_of_mem hx] at ih
    have := List.length_pos_of_mem hx
    rw [List.length_cons]; omega
section
variable {P : Program} {w : World} {A : Around} {E : Value → Shared → Prop} {s : Shared} {a : Addr} {L : List Str} {n : Nat}
theorem gs_is {e : Int × Value} (g : GS w e) (k : Str) : (PySem.strKind P w).is k e.2 = true ↔ kS e = k := by
  obtain ⟨x, tk, h1, _⟩ := g
  have e1 : kS e = x := by unfold kS; rw [h1]
  rw [e1, h1]
  constructor
  · intro h
    obtain ⟨t, q⟩ := Value.isStrOf_shape (x := k) (v := .str x tk) h
    cases q; rfl
  · intro h; subst h; exact strKind_is P w x tk
theorem gs_elems {l : List (Int × Value)} (g : ∀ e ∈ l, GS w e) : ElemsOf (PySem.strKind P w) l := fun e he => by
  obtain ⟨x, tk, h1, h2⟩ := g e he
  exact ⟨⟨x, by rw [h1]; exact strKind_is P w x tk, h2⟩, by rw [h1]; rfl⟩
theorem gs_mem {l : List (Int × Value)} (g : ∀ e ∈ l, GS w e) (k : Str) : k ∈ l.map kS ↔ ∃ e ∈ l, (PySem.strKind P w).is k e.2 = true := by
  constructor
  · intro h
    obtain ⟨e, he, q⟩ := List.mem_map.mp h
    exact ⟨e, he, (gs_is (g e he) k).mpr q⟩
  · rintro ⟨e, he, q⟩
    exact List.mem_map.mpr ⟨e, he, (gs_is (g e he) k).mp q⟩
theorem sr_tail {gw : Bool → Sem Unit} (hgw : ∀ (b : Bool) (z : Shared) (Q' : Unit → Shared → Prop), Q' () z → wpAny (model P w) A (gw b) Q' E z)
    {o : Obj} {es : Array (Int × Value)} {ep : Nat} {t : SetTable} (ho : s.heap.get? a = some o) (hex : o.ExactSet) (hd : o.data = .set es ep t)
    {fs : Array (Int × Value)} {u : SetTable} {L' : List Str} (gf : ∀ e ∈ fs.toList, GS w e) (nf : (fs.toList.map kS).Nodup) (mf : ∀ k, k ∈ L' ↔ k ∈ fs.toList.map kS)
    (bf : fs.size < scanBound) (ff : u.fits fs.size = true) (rf : Ris u.place.toList) (lf : w.params.followText "set-order" = true ∨ u.led = true) {was : Bool} {R : Option Bool → Shared → Prop}
    (fin : ∀ h', Heap.SameBut a s.heap h' → SR w h' a L' fs.size → R (some true) { s with heap := h' }) :
    wpAny (model P w) A (do
        storeSet a fs u
        if (!was && u.tooFull) = true then do
            gw (relayAll u fs (SetTable.grown fs.size)).2.2
            storeSet a (relayAll u fs (SetTable.grown fs.size)).1 (relayAll u fs (SetTable.grown fs.size)).2.1
            pure (some true)
          else pure (some true)) R E s := by
  refine wpAny_bind (wpAny_storeSet_of ho hd ?_ (fits_of_scanBound bf))
  have at1 := store_at (es' := fs) (t' := u) ho hd
  have same1 := Heap.SameBut.update s.heap a (Obj.putSet fs u)
  split
  · have pm := relayAll_perm u fs (SetTable.grown fs.size)
    have f3 := relayAll_fits u fs (SetTable.grown fs.size)
    have r3 := relayAll_ris u fs (SetTable.grown fs.size)
    have l3 := relayAll_led u fs (SetTable.grown fs.size)
    generalize relayAll u fs (SetTable.grown fs.size) = zz at pm f3 r3 l3 ⊢
    obtain ⟨gs, v, gave⟩ := zz
    dsimp only at pm f3 r3 l3 ⊢
    have sz : gs.size = fs.size := by rw [← Array.length_toList, pm.length_eq, Array.length_toList]
    have b2 : gs.size < scanBound := by rw [sz]; exact bf
    refine wpAny_bind (hgw _ _ _ ?_)
    refine wpAny_bind (wpAny_storeSet_of at1 rfl ?_ (fits_of_scanBound b2))
    have at2 := store_at (es' := gs) (t' := v) at1 rfl
    refine wpAny_pure (fin _ (same1.trans (Heap.SameBut.update _ a _)) ?_)
    exact ⟨_, gs, _, v, at2, hex, rfl, fun e he => gf e (pm.mem_iff.mp he), (pm.map kS).nodup_iff.mpr nf, fun k => (mf k).trans (pm.map kS).mem_iff.symm, b2, f3, sz, r3, lf.imp id fun z => by rw [l3]; exact z⟩
  · exact wpAny_pure (fin _ same1 ⟨_, fs, _, u, at1, hex, rfl, gf, nf, mf, bf, ff, rfl, rf, lf⟩)
theorem sr_add {k : Str} {tk : Tok} {Q : Bool → Shared → Prop} (R : SR w s.heap a L n) (room : n + 1 < scanBound)
    (fin : ∀ (b : Bool) (m : Nat) h', Heap.SameBut a s.heap h' → SR w h' a (L ++ [k]) m → Q b { s with heap := h' }) :
    wpAny (model P w) A (setAddHashed a (.str k tk) ((PySem.strKind P w).hash k)) Q E s := by
  obtain ⟨o, es, ep, t, ho, hex, hd, g, nd, hm, hb, hf, hn, hr, hl⟩ := R
  have isk : (PySem.strKind P w).is k (.str k tk) = true := strKind_is P w k tk
  have scn : (Value.str k tk).scannable = true := rfl
  have els : ElemsOf (PySem.strKind P w) es.toList := gs_elems g
  unfold setAddHashed setAddHashedIn
  refine wpAny_holding (wpAny_bind (wpAny_setState_of ho hd hf ?_))
  dsimp only
  rw [byScan_of scn hb els]
  simp only [↓reduceIte]
  unfold setAddByScan
  refine wpAny_bind ?_
  refine wpAny_bind (wpAny_rule ?_)
  refine wpAny_bind (wpAny_setScan_of isk ho hd hf els ?_)
  cases look : List.findIdx? (fun e => (PySem.strKind P w).is k e.2) es.toList with
  | some j =>
    dsimp only
    obtain ⟨hj, pj, _⟩ := List.findIdx?_eq_some_iff_getElem.mp look
    have inS : k ∈ es.toList.map kS := (gs_mem (P := P) (w := w) g k).2 ⟨es.toList[j], List.getElem_mem hj, pj⟩
    refine wpAny_pure (wpAny_pure ?_)
    refine fin _ n s.heap (Heap.SameBut.refl a s.heap) ⟨o, es, ep, t, ho, hex, hd, g, nd, fun i => ?_, hb, hf, hn, hr, hl⟩
    rw [List.mem_append, hm i, List.mem_singleton]
    exact ⟨fun z => z.elim id fun e => e ▸ inS, .inl⟩
  | none =>
    dsimp only
    have new : k ∉ es.toList.map kS := fun z => by
      obtain ⟨e, he, q⟩ := (gs_mem (P := P) (w := w) g k).1 z
      have c := List.findIdx?_eq_none_iff.mp look e he
      rw [q] at c; cases c
    have gave : ∀ (b : Bool) {z : Shared} {Q' : Unit → Shared → Prop}, Q' () z → wpAny (model P w) A (match b with | true => rule "set.scan.the-table-gave-way" | false => pure ()) Q' E z :=
      fun b z Q' q => by cases b <;> first | exact wpAny_pure q | exact wpAny_rule q
    have pm := layNew_perm t es ((PySem.strKind P w).hash k) (.str k tk)
    have f1 := layNew_fits t es ((PySem.strKind P w).hash k) (.str k tk)
    have r1 := layNew_ris t es ((PySem.strKind P w).hash k) (.str k tk) hr
    have l1 := layNew_led t es ((PySem.strKind P w).hash k) (.str k tk)
    generalize layNew t es ((PySem.strKind P w).hash k) (.str k tk) = zz at pm f1 r1 l1 ⊢
    obtain ⟨fs, u, was, gv⟩ := zz
    dsimp only at pm f1 r1 l1 ⊢
    rw [Array.toList_push] at pm
    have pc : fs.toList.Perm (((PySem.strKind P w).hash k, Value.str k tk) :: es.toList) := pm.trans (List.perm_append_singleton _ _)
    have pk : (fs.toList.map kS).Perm (k :: es.toList.map kS) := pc.map kS
    have gf : ∀ e ∈ fs.toList, GS w e := fun e he => by
      rcases List.mem_cons.mp (pc.mem_iff.mp he) with z | z
      · rw [z]; exact ⟨k, tk, rfl, rfl⟩
      · exact g e z
    have nf : (fs.toList.map kS).Nodup := pk.nodup_iff.mpr (List.nodup_cons.mpr ⟨new, nd⟩)
    have mf : ∀ i, i ∈ L ++ [k] ↔ i ∈ fs.toList.map kS := fun i => by
      rw [List.mem_append, hm i, List.mem_singleton, pk.mem_iff, List.mem_cons]
      exact Or.comm
    have sz : fs.size = n + 1 := by rw [← Array.length_toList, pc.length_eq, List.length_cons, Array.length_toList, hn]
    have b1 : fs.size < scanBound := by rw [sz]; exact room
    have led : w.params.followText "set-order" = true ∨ u.led = true := hl.imp id fun z => by rw [l1]; exact z
    refine wpAny_bind (gave _ ?_)
    split
    · refine wpAny_bind ?_
      rw [hashByValue_scannable 8 scn]
      refine wpAny_pure ?_
      refine sr_tail ?_ ho hex hd gf nf mf b1 ?_ ?_ ?_ ?_
      · intro b z Q' q; cases b <;> first | exact wpAny_pure q | exact wpAny_rule q
      · first | (split <;> first | exact f1 | exact SetTable.fits_plain_off f1) | exact f1
      · first | (split <;> exact r1) | exact r1
      · first | (split <;> exact led) | exact led
      · intro h' sb r; dsimp only; exact wpAny_pure (fin _ _ h' sb r)
    · refine wpAny_bind (wpAny_pure ?_)
      simp only [↓reduceIte]
      refine sr_tail ?_ ho hex hd gf nf mf b1 f1 r1 led ?_
      · intro b z Q' q; cases b <;> first | exact wpAny_pure q | exact wpAny_rule q
      · intro h' sb r; dsimp only; exact wpAny_pure (fin _ _ h' sb r)
theorem sr_room {B : List Str} (R : SR w s.heap a L n) (hB : ∀ x ∈ L, x ∈ B) : n ≤ B.length := by
  obtain ⟨o, es, ep, t, ho, hex, hd, g, nd, hm, hb, hf, hn, hr, hl⟩ := R
  have := sub_len _ B nd fun x hx => hB x ((hm x).2 hx)
  rw [List.length_map, Array.length_toList, hn] at this
  exact this
end
section
variable {prog : Program} {w : World} {A : Around} {R : Result → Shared → Prop} {I : Addr} {fp wr : List Addr} {G : Array GenState → Array GenState → Prop} {m : Nat} {P : Nat → Value → Prop} {St : Nat → Shared → Prop}
theorem sr_loop (W : WalksS prog w A.in1 I fp wr G m P St) (S : Addr) (nS : S ∉ fp) (xs : List Str) (sz : xs.length = m) {B : List Str} (hB : ∀ x ∈ xs, x ∈ B) (hB64 : B.length < 64)
    (val : ∀ i v, P i v → ∃ x t, xs[i]? = some x ∧ v = .str x t) :
    ∀ (k i n : Nat) (s : Shared), m - i = k → i ≤ m → St i s → SR w s.heap S (xs.take i) n →
      (∀ s' n', Moved (S :: wr) G s s' → SR w s'.heap S xs n' → R (.ok (.ret .none)) s') →
      codeAny (model prog w) A (.builtin "set.update.loop" ⟨[.ref S, .ref I], []⟩) R s := by
  have nSw : S ∉ wr := fun h => nS (W.sub _ h)
  have sub : ∀ b ∈ wr, b ∈ S :: wr := fun b hb => List.mem_cons_of_mem _ hb
  intro k
  induction k with
  | zero =>
    intro i n s hk hi st hS hR
    obtain rfl : i = m := by omega
    refine codeAny_builtin PyProof.Rows.F.entry_set_update_loop ?_
    rw [Around.under_plainId PyProof.Rows.F.plain_set_update_loop _]
    show wpAny _ A.in1 (pyNext (.ref I) >>= _) _ _ s
    refine wpAny_bind (W.done s _ _ st fun s' hm => ?_)
    show wpAny _ A.in1 (ret Value.none) _ _ s'
    refine wpAny_pure (hR s' n (hm.mono sub) ?_)
    rw [← sz, List.take_length] at hS
    exact hS.at fun o ho => hm.heap S _ nSw ho
  | succ k ih =>
    intro i n s hk hi st hS hR
    have lt : i < m := by omega
    refine codeAny_builtin PyProof.Rows.F.entry_set_update_loop ?_
    rw [Around.under_plainId PyProof.Rows.F.plain_set_update_loop _]
    show wpAny _ A.in1 (pyNext (.ref I) >>= _) _ _ s
    refine wpAny_bind (W.item i s _ _ lt st fun v s' hP st' hm => ?_)
    obtain ⟨x, t, hx, rfl⟩ := val i v hP
    have hS' : SR w s'.heap S (xs.take i) n := hS.at fun o ho => hm.heap S _ nSw ho
    show wpAny _ A.in1 (holding [Value.str x t] (setAdd S (.str x t)) >>= _) _ _ s'
    refine wpAny_bind (wpAny_holding ?_)
    unfold setAdd
    refine wpAny_holding ?_
    refine wpAny_bind ((PySem.strKind prog w).pyHash (k := x) (strKind_is _ _ _ _) ?_)
    have room : n + 1 < scanBound := by
      have := sr_room hS' (B := B) fun y hy => hB y (List.mem_of_mem_take hy)
      unfold scanBound; omega
    refine sr_add (s := { s' with toks := s'.toks + 1 }) hS' room fun b n2 h' sb r => ?_
    have tk : xs.take (i + 1) = xs.take i ++ [x] := by rw [List.take_add_one, hx]; rfl
    rw [← tk] at r
    refine wpAny_pure ⟨plainId_quiet PyProof.Rows.F.plain_set_update_loop _, ih (i + 1) n2 _ (by omega) lt (W.frame _ s' _ _ st' (Nat.le_succ _) fun b hb o e => ?_) r fun s'' n3 hm'' hS'' => ?_⟩
    · rw [sb.2 b (fun z : b = S => nS (by rw [← z]; exact hb))]; exact e
    · refine hR s'' n3 (Moved.trans W.gtrans ((hm.mono sub).then_heap (Nat.le_succ _) fun b o hb e => ?_) hm'') hS''
      rw [sb.2 b (fun z : b = S => hb (by rw [z]; exact List.mem_cons_self))]; exact e
end
end Kk

set_option maxHeartbeats 4000000
namespace Kk
open PySem PySem.Spec PyProof.Rows L2
abbrev newSet (w : World) : Obj := { cls := .type "set", dict := none, data := .set #[] 0 (.fresh 0 0 (!w.params.followText "set-order")) }
theorem sr_fresh {h : Heap} (w : World) : SR w (h.push { cls := .type "set", dict := none, data := .set #[] 0 (.fresh 0 0 (!w.params.followText "set-order")) }) h.objs.size [] 0 :=
  ⟨_, #[], 0, _, Heap.get?_push_size _ rfl, ⟨rfl, rfl, rfl⟩, rfl, (fun e he => by simp at he), (by simp), (fun k => by simp), (by decide), (by rfl), rfl, List.Pairwise.nil, by
    show _ ∨ (!w.params.followText "set-order") = true
    cases w.params.followText "set-order"
    · exact .inr rfl
    · exact .inl rfl⟩
section
variable {P : Program} {w : World} {A : Around} {E : Value → Shared → Prop} {s : Shared} {a : Addr} {L : List Str} {n : Nat}
/-- set(xs), xs a list of texts -/
theorem set_of_strs {l : Addr} {items : Array Value} {xs B : List Str} {Q : Value → Shared → Prop} (hh : A.handled = none) (hl : s.heap.IsList l items) (sz0 : xs.length = items.size)
    (val : ∀ (i : Nat) (v : Value), items[i]? = some v → ∃ x t, xs[i]? = some x ∧ v = .str x t) (hB : ∀ x ∈ xs, x ∈ B) (hB64 : B.length < 64)
    (fin : ∀ (h' : Heap) (tk n : Nat), SR w h' s.heap.objs.size xs n → (∀ b o, s.heap.get? b = some o → h'.get? b = some o) → Q (.ref s.heap.objs.size) { s with heap := h', toks := tk }) :
    wpAny (model P w) A (call (.type "set") [.ref l]) Q E s := by
  obtain ⟨c, tl, mro⟩ := PySem.F.called_set.mro
  have made := PySem.F.called_set.made
  have issub := PySem.F.called_set.sub
  refine wpAny_call (codeAny_of_tree ?_)
  show wpAny _ _ (callAny (.type "set") _) _ _ _
  refine wpAny_pure ⟨Code.quiet_builtin _ (by decide +kernel), codeAny_builtin PySem.F.entry_type_call ?_⟩
  rw [Around.under_plain (weight_type_call_type "set" [.ref l] []) rfl]
  have q1 := PySem.F.called_set.notType
  have q2 := PySem.F.called_set.canCreate
  have q3 := PySem.F.typeCall_set_1 (.ref l)
  repeat (any_goals (first | assumption | wp_step))
  refine codeAny_mono (code_set_led1 (.ref l) (E := E) (Q₁ := fun v z => v = .ref s.heap.objs.size ∧ z = { s with heap := s.heap.push { cls := .type "set", dict := none, data := .set #[] 0 (.fresh 0 0 (!w.params.followText "set-order")) } }) ⟨rfl, rfl⟩) fun r z hr => ?_
  cases r with
  | error e => exact hr
  | ok fl =>
    cases fl with
    | ret v =>
      obtain ⟨rfl, rfl⟩ := hr
      have atS : (s.heap.push (newSet w)).get? s.heap.objs.size = some (newSet w) := Heap.get?_push_size _ rfl
      have isS : Shared.TypeIs { s with heap := s.heap.push (newSet w) } (.ref s.heap.objs.size) "set" := ⟨_, atS, rfl⟩
      have ini := PySem.F.called_set.init.lookup
      have bnd := PySem.F.called_set.init.bind (.ref s.heap.objs.size)
      repeat (any_goals (first | assumption | wp_step))
      refine codeAny_mono (codeAny_call_builtin (R := wants (fun r z2 => r = .none ∧ ∃ h' tk n, z2 = { s with heap := h', toks := tk } ∧ SR w h' s.heap.objs.size xs n ∧ (∀ b o, s.heap.get? b = some o → h'.get? b = some o)) E)
        PySem.F.called_set.init.plain PySem.F.entry_set_init (check_set_init_1 isS ?_)) fun r2 z2 hr2 => ?_
      · obtain ⟨ol, hol, cl, nl, dl⟩ := hl
        obtain ⟨oc, od, odt, osl⟩ := ol
        simp only at cl dl
        subst cl; subst dl
        have hol2 : (s.heap.push (newSet w)).get? l = some { cls := .type "list", dict := od, data := .seq items nl, slots := osl } := Heap.get?_push_of_some _ hol
        have s1 := PySem.F.sub_list_set
        have s2 := PySem.F.sub_list_frozenset
        have s3 : (Value.type "list" == Value.type "dict") = false := by decide
        have isL : (s.heap.push (newSet w)).IsList l items := ⟨_, hol2, rfl, nl, rfl⟩
        unfold Builtin.«set.__init__» noKeywords Builtin.Frozenset.updateFrom
        generalize hold : pyIter = PI
        wp_walk
        subst hold
        refine wpAny_pyIter_list isL ?_
        refine wpAny_bind (wpAny_runValue ?_)
        have lt1 : l < s.heap.objs.size := Heap.lt_size hol
        have hh3 : A.in1.in1.in1.handled = none := by simp [hh]
        have neI : l ≠ (s.heap.push (newSet w)).objs.size := by rw [Heap.size_push]; exact Nat.ne_of_lt (Nat.lt_succ_of_lt lt1)
        have nS : s.heap.objs.size ∉ [(s.heap.push (newSet w)).objs.size, l] := by
          rw [Heap.size_push]; simp only [List.mem_cons, List.mem_singleton, List.not_mem_nil, or_false, not_or]
          exact ⟨Nat.ne_of_lt (Nat.lt_succ_self _), Nat.ne_of_gt lt1⟩
        refine sr_loop ((Walks.list hh3 _ l neI items).toS) s.heap.objs.size nS xs sz0 hB hB64 val (items.size - 0) 0 0 _ (by omega) (Nat.zero_le _)
          ⟨⟨_, Heap.get?_push_size _ rfl, rfl, rfl⟩, (isL.push _)⟩ ?z0 ?zR
        case z0 =>
          have f := sr_fresh (h := s.heap) w
          exact f.at fun o ho => Heap.get?_push_of_some _ ho
        case zR =>
          intro z' n' mv hS'
          obtain ⟨h', g', d', tk', os'⟩ := z'
          have eg : g' = s.gens := mv.gens
          have ed : d' = s.drawn := mv.drawn
          have eo' : os' = s.os := mv.os
          subst eg; subst ed; subst eo'
          show wpAny _ _ _ _ _ _
          refine wpAny_pure ?_
          show wpAny _ _ (ret Value.none) _ _ _
          refine wpAny_pure ⟨rfl, h', tk', n', rfl, hS', fun b o e => ?_⟩
          have lb := Heap.lt_size e
          have n1 : b ≠ s.heap.objs.size := Nat.ne_of_lt lb
          have n2 : b ≠ (s.heap.push (newSet w)).objs.size := by rw [Heap.size_push]; exact Nat.ne_of_lt (Nat.lt_succ_of_lt lb)
          exact mv.heap b o (by simp only [List.mem_cons, List.mem_singleton, List.not_mem_nil, or_false, not_or]; exact ⟨n1, n2⟩) (Heap.get?_push_of_some _ (Heap.get?_push_of_some _ e))
      · cases r2 with
        | error e => exact hr2
        | ok fl2 =>
          cases fl2 with
          | ret r =>
            obtain ⟨rfl, h', tk, n', rfl, hS', kp⟩ := hr2
            repeat (any_goals (first | assumption | wp_step))
            exact fin _ _ _ hS' kp
          | _ => exact hr2.elim
    | _ => exact hr.elim
theorem strs_of_vals : ∀ (l : List Value), (∀ v ∈ l, ∃ x tk, v = Value.str x tk) → StrsAre l (l.map fun v => kS (0, v))
  | [], _ => .nil
  | v :: l, h => by
    obtain ⟨x, tk, rfl⟩ := h v List.mem_cons_self
    exact .cons x tk (strs_of_vals l fun u hu => h u (List.mem_cons_of_mem _ hu))
/-- sorted(set), a set of texts -/
theorem sorted_of_set {B : List Str} {Q : Value → Shared → Prop} (R : SR w s.heap a L n) (hh : A.handled = none) (hB : ∀ x ∈ L, x ∈ B) (hB64 : B.length < 64)
    (fin : ∀ s' p (out : Array Value) (c : Nat) (ys : List Str), (∀ b o, s.heap.get? b = some o → s'.heap.get? b = some o) → s'.gens = s.gens → s'.os = s.os → s.heap.objs.size ≤ p →
      s'.heap.get? p = some (seqObj "list" out c) → StrsAre out.toList ys → sortedS ys = true → ys.Nodup → (∀ k, k ∈ ys ↔ k ∈ L) → ys.length < 64 → Q (.ref p) s') :
    wpAny (model P w) A (call (.builtin "sorted") [.ref a]) Q E s := by
  have n64 : n < 64 := Nat.lt_of_le_of_lt (sr_room R hB) hB64
  obtain ⟨o, es, ep, t, ho, hex, hd, g, nd, hm, hb, hf, hn, hr, hl⟩ := R
  refine Calls.call_function_entry kind_sorted plain_sorted entry_sorted (args_sorted1 _) ?_
  unfold Builtin.«sorted»
  refine wpAny_bind (m := checkCount "sorted" 1 1 _) (wpAny_pure ?_)
  refine wpAny_bind (collect_set (A := A.in1) hh ⟨o, ho, hex.1, hd⟩ hf hb hr hl fun z vs k1 hz g1 o1 pm => ?_)
  have vl : vs.length = n := by rw [pm.length_eq, List.length_map, Array.length_toList]; exact hn
  have SA : StrsAre vs (vs.map fun v => kS (0, v)) := strs_of_vals vs fun v hv => by
    obtain ⟨e, he, q⟩ := List.mem_map.mp (pm.mem_iff.mp hv)
    obtain ⟨x, tk, h1, _⟩ := g e he
    exact ⟨x, tk, by rw [← q]; exact h1⟩
  have pk : (vs.map fun v => kS (0, v)).Perm (es.toList.map kS) := by
    have q := pm.map fun v => kS (0, v)
    rw [List.map_map] at q
    exact q
  refine wpAny_bind (wpAny_newList ?_ (by rw [vl, sizeLine_eq]; omega))
  have oL : (z.heap.push (seqObj "list" vs.toArray 0)).get? z.heap.objs.size = some (seqObj "list" vs.toArray 0) := Heap.get?_push_size _ rfl
  refine wpAny_bind (wpAny_holding (wpAny_call_entry slot_list_sort ⟨_, oL, rfl⟩ entry_list_sort
    (list_sort_treeK strKind_oneLt oL SA.keysOf (fun v₁ v₂ rest e => keyKind_strs (by rw [← e]; exact SA)) (by rw [vl]; exact n64) fun st' hp hs => ⟨_, rfl, ?_⟩) (args_list_sort _)))
  obtain ⟨ys, a1, a2, a3⟩ := sorted_out_str SA hp hs
  obtain ⟨c, hc⟩ := sortedHeap_at (vs := vs) (out := (arrOf st').map (·.2)) oL
  have pn : ys.Perm (es.toList.map kS) := a2.trans pk
  refine wpAny_pure ⟨_, rfl, fin _ z.heap.objs.size _ c ys (fun b u e => ?_) g1 o1 hz hc a1 a3 (pn.nodup_iff.mpr nd) (fun k => by rw [pn.mem_iff, ← hm k]) ?_⟩
  · have q := k1 b u e
    have lt := Heap.lt_size q
    show (sortedHeap (z.heap.push (seqObj "list" vs.toArray 0)) z.heap.objs.size vs _).get? b = some u
    rw [sortedHeap_old (Nat.ne_of_lt lt) (by rw [size_push']; exact Nat.lt_succ_of_lt lt)]
    exact Heap.get?_push_of_some _ q
  · rw [pn.length_eq, List.length_map, Array.length_toList, hn]; exact n64
end
/-- a set of texts, tracked -/
def SetS (w : World) (a : Addr) (L : List Str) : HO := .ext fun h => ∃ n, SR w h a L n
section
variable {X : Cx}
theorem setS_ok {P : Program} {w : World} {H : Hp} {h : Heap} {a : Addr} {L : List Str} {n : Nat} (R : SR w h a L n) : ObjOk P w H h a (SetS w a L) := by
  refine ⟨⟨n, R⟩, ?_, fun h1 h2 ⟨m, R1⟩ k => ⟨m, R1.at k⟩⟩
  obtain ⟨o, es, ep, t, ho, _⟩ := R
  exact ⟨o, ho⟩
def rSetS (K : PySem.W.Frag) (w : World) : List V → Hp → VK → Prop := fun vs H Q => ∃ (l : Addr) (xs B : List Str), vs = [.ref l] ∧ SqL K H l (xs.map V.str) ∧ (∀ x ∈ xs, x ∈ B) ∧ B.length < 64 ∧ ∀ p, H p = none → Q (.ref p) (upd H p (SetS w p xs))
theorem call_setS (hc : X.calm = true) : CallR X (.type "set") (rSetS X.K X.w) := by
  intro pins s σ H vs us Q I r h
  obtain ⟨l, xs, B, rfl, hl, hB, hB64, q⟩ := h
  rw [Vals.ref1 r]
  obtain ⟨its, rv, pl, hz⟩ := I.list hl
  have fr : H s.heap.objs.size = none := I.hok.fresh (Nat.le_refl _)
  have hlen : xs.length = its.toArray.size := by
    have := rv.length
    rw [List.length_map] at this
    simpa using this
  refine set_of_strs (P := X.prog) (w := X.w) (I.ok.hd hc) pl.isList hlen (fun i v hv => ?_) hB hB64 fun h' tk n R kp => ?_
  · have hv2 : its[i]? = some v := by simpa using hv
    have hi : i < xs.length := by rw [hlen]; simpa using (List.getElem?_eq_some_iff.mp hv2).1
    have hx : (xs.map V.str)[i]? = some (.str xs[i]) := by rw [List.getElem?_map, List.getElem?_eq_getElem hi]; rfl
    obtain ⟨u, hu, ru⟩ := rv.get hx
    rw [hv2] at hu; cases hu
    obtain ⟨t, e⟩ := (show ∃ t, v = Value.str xs[i] t from ru)
    exact ⟨xs[i], t, List.getElem?_eq_getElem hi, e⟩
  · exact ⟨.ref s.heap.objs.size, upd H s.heap.objs.size (SetS X.w s.heap.objs.size xs), I.laid (t' := tk) kp (Nat.le_refl _) (setS_ok R), rfl, q _ fr⟩
def rSortSetS (w : World) : List V → Hp → VK → Prop := fun vs H Q => ∃ (a : Addr) (L B : List Str), vs = [.ref a] ∧ H a = some (SetS w a L) ∧ (∀ x ∈ L, x ∈ B) ∧ B.length < 64 ∧
  ∀ (ys : List Str) (p : Addr), sortedS ys = true → ys.Nodup → (∀ k, k ∈ ys ↔ k ∈ L) → H p = none → Q (.ref p) (upd H p (.lst (ys.map V.str)))
theorem call_sortSetS (hc : X.calm = true) : CallR X (.builtin "sorted") (rSortSetS X.w) := by
  intro pins s σ H vs us Q I r h
  obtain ⟨a, L, B, rfl, ha, hB, hB64, q⟩ := h
  obtain ⟨n, R⟩ := (I.hok a _ ha).1
  rw [Vals.ref1 r]
  refine sorted_of_set (P := X.prog) R (I.ok.hd hc) hB hB64 fun s' p out c ys k g o hp hg hS h1 h2 h3 h4 => ?_
  have hlen : (ys.map V.str).length ≤ sizeLine := by rw [List.length_map, sizeLine_eq]; omega
  have fr : H p = none := I.hok.fresh hp
  have J : Inv X pins σ (upd H p (.lst (ys.map V.str))) { s with heap := s'.heap, gens := s'.gens, drawn := s'.drawn, toks := s'.toks } :=
    I.call (ch := []) (Un.laid k hp fr) (I.hok.laid k hp ⟨hlen, out.toList, c, vals_of_strs hS, hg⟩) (by rw [g]; exact I.bare) (fun _ z => nomatch z)
  have e : s' = { s with heap := s'.heap, gens := s'.gens, drawn := s'.drawn, toks := s'.toks } := by
    cases s'; cases s; cases o; rfl
  rw [e]
  exact ⟨.ref p, _, J, rfl, q ys p h1 h2 h3 fr⟩
end
end Kk

set_option maxHeartbeats 4000000
namespace Kk
open PySem PySem.Spec PyProof.Rows L2
section
variable {P : Program} {w : World} {A : Around} {E : Value → Shared → Prop} {s : Shared}
/-- sorted(xs), xs a tuple or a list of texts -/
theorem sorted_of_seqS {l : Addr} {T : String} {o : Obj} {items : Array Value} {n0 : Nat} {xs : List Str} {Q : Value → Shared → Prop} (hT : T = "list" ∨ T = "tuple") (ho : s.heap.get? l = some o) (hc : o.cls = .type T) (hd : o.data = .seq items n0) (hS : StrsAre items.toList xs) (h64 : items.size < 64)
    (fin : ∀ (h1 h2 : Heap) (out : Array Value) (c : Nat) (ys : List Str), (∀ b o, s.heap.get? b = some o → h1.get? b = some o) → (∀ b o, h1.get? b = some o → h2.get? b = some o) →
      h2.get? h1.objs.size = some (seqObj "list" out c) → StrsAre out.toList ys → sortedS ys = true → ys.Perm xs → Q (.ref h1.objs.size) { s with heap := h2 }) :
    wpAny (model P w) A (call (.builtin "sorted") [.ref l]) Q E s := by
  refine Calls.call_function_entry kind_sorted plain_sorted entry_sorted (args_sorted1 _) ?_
  unfold Builtin.«sorted»
  refine wpAny_bind (m := checkCount "sorted" 1 1 _) (wpAny_pure ?_)
  have hl : items.toList.length < 64 := by rw [Array.length_toList]; exact h64
  refine wpAny_bind (wpAny_collect_seq (A := A.in1) l hT ho hc hd (fun h' k1 => ?_) (by rw [sizeLine_eq]; omega))
  refine wpAny_bind (wpAny_newList ?_ (by rw [sizeLine_eq]; omega))
  have oL : (h'.push (seqObj "list" items.toList.toArray 0)).get? h'.objs.size = some (seqObj "list" items.toList.toArray 0) := Heap.get?_push_size _ rfl
  refine wpAny_bind (wpAny_holding (wpAny_call_entry slot_list_sort ⟨_, oL, rfl⟩ entry_list_sort
    (list_sort_treeK strKind_oneLt oL hS.keysOf (fun v₁ v₂ rest e => keyKind_strs (by rw [← e]; exact hS)) hl fun st' hp hs => ⟨_, rfl, ?_⟩) (args_list_sort _)))
  obtain ⟨ys, a1, a2, a3⟩ := sorted_out_str hS hp hs
  obtain ⟨c, hc2⟩ := sortedHeap_at (vs := items.toList) (out := (arrOf st').map (·.2)) oL
  refine wpAny_pure ⟨_, rfl, fin h' _ _ c ys k1 (fun b u q => ?_) hc2 a1 a3 a2⟩
  have lt := Heap.lt_size q
  show (sortedHeap (h'.push (seqObj "list" items.toList.toArray 0)) h'.objs.size items.toList _).get? b = some u
  rw [sortedHeap_old (Nat.ne_of_lt lt) (by rw [size_push']; exact Nat.lt_succ_of_lt lt)]
  exact Heap.get?_push_of_some _ q
end
section
variable {X : Cx}
theorem strs_vals : ∀ {xs : List Str} {us : List Value}, Vals (xs.map V.str) us → StrsAre us xs
  | [], _, h => by cases h; exact .nil
  | x :: xs, _, h => by
    cases h with
    | cons a b =>
      obtain ⟨t, rfl⟩ := (show ∃ t, _ = Value.str x t from a)
      exact .cons x t (strs_vals b)
def rSortTS (K : PySem.W.Frag) : List V → Hp → VK → Prop := fun vs H Q => ∃ (l : Addr) (xs : List Str), vs = [.ref l] ∧ (SqT K H l (xs.map V.str) ∨ SqL K H l (xs.map V.str)) ∧ xs.length < 64 ∧ ∀ ys p, ys.Perm xs → sortedS ys = true → H p = none → Q (.ref p) (upd H p (.lst (ys.map V.str)))
theorem cr_sortTS {K : PySem.W.Frag} (hK : X.K = K) : CallR X (.builtin "sorted") (rSortTS K) := by
  subst hK
  intro pins s σ H vs us Q I r h
  obtain ⟨l, xs, rfl, hs, h64, q⟩ := h
  rw [Vals.ref1 r]
  have key : ∃ (T : String) (o : Obj) (its : List Value) (n0 : Nat), (T = "list" ∨ T = "tuple") ∧ s.heap.get? l = some o ∧ o.cls = .type T ∧ o.data = .seq its.toArray n0 ∧ Vals (xs.map V.str) its := by
    rcases hs with hs | hs
    · obtain ⟨its, rv, ⟨o, ho, hc, n, hd⟩, hz⟩ := I.tuple hs
      exact ⟨_, o, its, n, .inr rfl, ho, hc, hd, rv⟩
    · obtain ⟨its, rv, hl, hz⟩ := I.list hs
      obtain ⟨o, ho, hc, n, hd⟩ := hl.isList
      exact ⟨_, o, its, n, .inl rfl, ho, hc, hd, rv⟩
  obtain ⟨T, o, its, n0, hT, ho, hc, hd, rv⟩ := key
  have hl : its.length = xs.length := by have := rv.length; rw [List.length_map] at this; exact this.symm
  refine sorted_of_seqS (P := X.prog) hT ho hc hd (strs_vals rv) (by rw [List.size_toArray]; omega) fun h1 h2 out c ys ka kb hg hS e1 e2 => ?_
  have hlen : (ys.map V.str).length ≤ sizeLine := by rw [List.length_map, e2.length_eq, sizeLine_eq]; omega
  have I1 : Inv X pins σ H { s with heap := h1 } := I.kept (t' := s.toks) ka
  have J : Inv X pins σ (upd H h1.objs.size (.lst (ys.map V.str))) { s with heap := h2 } :=
    I1.laid (t' := s.toks) kb (Nat.le_refl _) (show ObjOk X.prog X.w _ _ _ (.lst (ys.map V.str)) from ⟨hlen, out.toList, c, vals_of_strs hS, hg⟩)
  exact ⟨.ref h1.objs.size, _, J, rfl, q ys _ e2 e1 (I1.hok.fresh (Nat.le_refl _))⟩
end
end Kk

set_option maxHeartbeats 4000000
namespace Kk
open PySem PySem.Spec PyProof.Rows L2
section
variable {P : Program} {w : World} {A : Around} {E : Value → Shared → Prop} {s : Shared} {a : Addr} {L : List Str} {n : Nat}
/-- set(xs), xs a tuple of texts -/
theorem set_of_strsT {l : Addr} {items : Array Value} {xs B : List Str} {Q : Value → Shared → Prop} (hh : A.handled = none) (hl : s.heap.IsTuple l items) (sz0 : xs.length = items.size)
    (val : ∀ (i : Nat) (v : Value), items[i]? = some v → ∃ x t, xs[i]? = some x ∧ v = .str x t) (hB : ∀ x ∈ xs, x ∈ B) (hB64 : B.length < 64)
    (fin : ∀ (h' : Heap) (tk n : Nat), SR w h' s.heap.objs.size xs n → (∀ b o, s.heap.get? b = some o → h'.get? b = some o) → Q (.ref s.heap.objs.size) { s with heap := h', toks := tk }) :
    wpAny (model P w) A (call (.type "set") [.ref l]) Q E s := by
  obtain ⟨c, tl, mro⟩ := PySem.F.called_set.mro
  have made := PySem.F.called_set.made
  have issub := PySem.F.called_set.sub
  refine wpAny_call (codeAny_of_tree ?_)
  show wpAny _ _ (callAny (.type "set") _) _ _ _
  refine wpAny_pure ⟨Code.quiet_builtin _ (by decide +kernel), codeAny_builtin PySem.F.entry_type_call ?_⟩
  rw [Around.under_plain (weight_type_call_type "set" [.ref l] []) rfl]
  have q1 := PySem.F.called_set.notType
  have q2 := PySem.F.called_set.canCreate
  have q3 := PySem.F.typeCall_set_1 (.ref l)
  repeat (any_goals (first | assumption | wp_step))
  refine codeAny_mono (code_set_led1 (.ref l) (E := E) (Q₁ := fun v z => v = .ref s.heap.objs.size ∧ z = { s with heap := s.heap.push { cls := .type "set", dict := none, data := .set #[] 0 (.fresh 0 0 (!w.params.followText "set-order")) } }) ⟨rfl, rfl⟩) fun r z hr => ?_
  cases r with
  | error e => exact hr
  | ok fl =>
    cases fl with
    | ret v =>
      obtain ⟨rfl, rfl⟩ := hr
      have atS : (s.heap.push (newSet w)).get? s.heap.objs.size = some (newSet w) := Heap.get?_push_size _ rfl
      have isS : Shared.TypeIs { s with heap := s.heap.push (newSet w) } (.ref s.heap.objs.size) "set" := ⟨_, atS, rfl⟩
      have ini := PySem.F.called_set.init.lookup
      have bnd := PySem.F.called_set.init.bind (.ref s.heap.objs.size)
      repeat (any_goals (first | assumption | wp_step))
      refine codeAny_mono (codeAny_call_builtin (R := wants (fun r z2 => r = .none ∧ ∃ h' tk n, z2 = { s with heap := h', toks := tk } ∧ SR w h' s.heap.objs.size xs n ∧ (∀ b o, s.heap.get? b = some o → h'.get? b = some o)) E)
        PySem.F.called_set.init.plain PySem.F.entry_set_init (check_set_init_1 isS ?_)) fun r2 z2 hr2 => ?_
      · obtain ⟨ol, hol, cl, nl, dl⟩ := hl
        obtain ⟨oc, od, odt, osl⟩ := ol
        simp only at cl dl
        subst cl; subst dl
        have hol2 : (s.heap.push (newSet w)).get? l = some { cls := .type "tuple", dict := od, data := .seq items nl, slots := osl } := Heap.get?_push_of_some _ hol
        have s1 := PySem.F.sub_tuple_set
        have s2 := PySem.F.sub_tuple_frozenset
        have s3 : (Value.type "tuple" == Value.type "dict") = false := by decide
        have isL : (s.heap.push (newSet w)).IsTuple l items := ⟨_, hol2, rfl, nl, rfl⟩
        unfold Builtin.«set.__init__» noKeywords Builtin.Frozenset.updateFrom
        generalize hold : pyIter = PI
        wp_walk
        subst hold
        refine wpAny_pyIter_tuple isL ?_
        refine wpAny_bind (wpAny_runValue ?_)
        have lt1 : l < s.heap.objs.size := Heap.lt_size hol
        have hh3 : A.in1.in1.in1.handled = none := by simp [hh]
        have neI : l ≠ (s.heap.push (newSet w)).objs.size := by rw [Heap.size_push]; exact Nat.ne_of_lt (Nat.lt_succ_of_lt lt1)
        have nS : s.heap.objs.size ∉ [(s.heap.push (newSet w)).objs.size, l] := by
          rw [Heap.size_push]; simp only [List.mem_cons, List.mem_singleton, List.not_mem_nil, or_false, not_or]
          exact ⟨Nat.ne_of_lt (Nat.lt_succ_self _), Nat.ne_of_gt lt1⟩
        refine sr_loop ((Walks.tuple hh3 _ l neI items).toS) s.heap.objs.size nS xs sz0 hB hB64 val (items.size - 0) 0 0 _ (by omega) (Nat.zero_le _)
          ⟨⟨_, Heap.get?_push_size _ rfl, rfl, rfl⟩, (isL.push _)⟩ ?z0 ?zR
        case z0 =>
          have f := sr_fresh (h := s.heap) w
          exact f.at fun o ho => Heap.get?_push_of_some _ ho
        case zR =>
          intro z' n' mv hS'
          obtain ⟨h', g', d', tk', os'⟩ := z'
          have eg : g' = s.gens := mv.gens
          have ed : d' = s.drawn := mv.drawn
          have eo' : os' = s.os := mv.os
          subst eg; subst ed; subst eo'
          show wpAny _ _ _ _ _ _
          refine wpAny_pure ?_
          show wpAny _ _ (ret Value.none) _ _ _
          refine wpAny_pure ⟨rfl, h', tk', n', rfl, hS', fun b o e => ?_⟩
          have lb := Heap.lt_size e
          have n1 : b ≠ s.heap.objs.size := Nat.ne_of_lt lb
          have n2 : b ≠ (s.heap.push (newSet w)).objs.size := by rw [Heap.size_push]; exact Nat.ne_of_lt (Nat.lt_succ_of_lt lb)
          exact mv.heap b o (by simp only [List.mem_cons, List.mem_singleton, List.not_mem_nil, or_false, not_or]; exact ⟨n1, n2⟩) (Heap.get?_push_of_some _ (Heap.get?_push_of_some _ e))
      · cases r2 with
        | error e => exact hr2
        | ok fl2 =>
          cases fl2 with
          | ret r =>
            obtain ⟨rfl, h', tk, n', rfl, hS', kp⟩ := hr2
            repeat (any_goals (first | assumption | wp_step))
            exact fin _ _ _ hS' kp
          | _ => exact hr2.elim
    | _ => exact hr.elim
end
section
variable {X : Cx}
def rSetT (K : PySem.W.Frag) (w : World) : List V → Hp → VK → Prop := fun vs H Q => ∃ (l : Addr) (xs : List Str), vs = [.ref l] ∧ SqT K H l (xs.map V.str) ∧ xs.length < 64 ∧ ∀ p, H p = none → Q (.ref p) (upd H p (SetS w p xs))
theorem call_setT (hc : X.calm = true) : CallR X (.type "set") (rSetT X.K X.w) := by
  intro pins s σ H vs us Q I r h
  obtain ⟨l, xs, rfl, hl, hB64, q⟩ := h
  rw [Vals.ref1 r]
  obtain ⟨its, rv, pl, hz⟩ := I.tuple hl
  have fr : H s.heap.objs.size = none := I.hok.fresh (Nat.le_refl _)
  have hlen : xs.length = its.toArray.size := by
    have := rv.length
    rw [List.length_map] at this
    simpa using this
  refine set_of_strsT (P := X.prog) (w := X.w) (B := xs) (I.ok.hd hc) pl hlen (fun i v hv => ?_) (fun _ h => h) hB64 fun h' tk n R kp => ?_
  · have hv2 : its[i]? = some v := by simpa using hv
    have hi : i < xs.length := by rw [hlen]; simpa using (List.getElem?_eq_some_iff.mp hv2).1
    have hx : (xs.map V.str)[i]? = some (.str xs[i]) := by rw [List.getElem?_map, List.getElem?_eq_getElem hi]; rfl
    obtain ⟨u, hu, ru⟩ := rv.get hx
    rw [hv2] at hu; cases hu
    obtain ⟨t, e⟩ := (show ∃ t, v = Value.str xs[i] t from ru)
    exact ⟨xs[i], t, List.getElem?_eq_getElem hi, e⟩
  · exact ⟨.ref s.heap.objs.size, upd H s.heap.objs.size (SetS X.w s.heap.objs.size xs), I.laid (t' := tk) kp (Nat.le_refl _) (setS_ok R), rfl, q _ fr⟩
/-- as many as are unlike -/
theorem nodup_len {M L : List Str} (nd : M.Nodup) (hm : ∀ k, k ∈ L ↔ k ∈ M) : M.length ≤ L.length ∧ (M.length = L.length ↔ L.Nodup) := by
  have h1 : M.length ≤ L.length := sub_len M L nd fun x hx => (hm x).mpr hx
  refine ⟨h1, fun e => ?_, fun h => Nat.le_antisymm h1 (sub_len L M h fun x hx => (hm x).mp hx)⟩
  clear h1
  induction L generalizing M with
  | nil => exact List.nodup_nil
  | cons x L ih =>
    have hx : x ∈ M := (hm x).mp List.mem_cons_self
    have le : (M.erase x).length = L.length := by
      rw [List.length_erase_of_mem hx, e, List.length_cons]; rfl
    have nx : x ∉ L := fun hxL => by
      have q := sub_len M L nd fun y hy => by
        rcases List.mem_cons.mp ((hm y).mpr hy) with z | z
        · rw [z]; exact hxL
        · exact z
      rw [e, List.length_cons] at q; omega
    refine List.nodup_cons.mpr ⟨nx, ih (nd.erase x) (fun k => ?_) le⟩
    constructor
    · intro hk
      have ne : k ≠ x := fun z => nx (z ▸ hk)
      exact (List.mem_erase_of_ne ne).mpr ((hm k).mp (List.mem_cons_of_mem _ hk))
    · intro hk
      have ne : k ≠ x := fun z => by
        rw [z] at hk
        exact nd.not_mem_erase hk
      rcases List.mem_cons.mp ((hm k).mpr (List.mem_of_mem_erase hk)) with z | z
      · exact absurd z ne
      · exact z
def rLenSetS (w : World) : List V → Hp → VK → Prop := fun vs H Q => ∃ (a : Addr) (L : List Str), vs = [.ref a] ∧ H a = some (SetS w a L) ∧ L.length < 64 ∧ ∀ n : Nat, (n = L.length ↔ L.Nodup) → Q (.int n) H
theorem call_lenSetS : CallR X (.builtin "len") (rLenSetS X.w) := by
  intro pins s σ H vs us Q I r h
  obtain ⟨a, L, rfl, ha, h64, q⟩ := h
  obtain ⟨n, R⟩ := (I.hok a _ ha).1
  rw [Vals.ref1 r]
  obtain ⟨o, es, ep, t, ho, hex, hd, g, nd, hm, hb, hf, hn, hr, hl⟩ := R
  obtain ⟨l1, l2⟩ := nodup_len nd hm
  have el : (es.toList.map kS).length = es.size := by rw [List.length_map, Array.length_toList]
  rw [el] at l1 l2
  refine call_len_set ho hex hd hf (by have : es.size < 64 := Nat.lt_of_le_of_lt l1 h64; omega) ⟨.int es.size, H, I.tok _, ⟨_, rfl⟩, q es.size l2⟩
end
end Kk

namespace Kk
open PySem PySem.Spec PyProof.Rows L2
/-! data whose lists stand nowhere in S: what changes only S leaves it -/
mutual
inductive Da (K : PySem.W.Frag) (S : List Addr) (H : Hp) : V → PyData → Prop
  | non : Da K S H .non .none
  | bl (b : Bool) : Da K S H (.bl b) (.bool b)
  | int (i : Int) : Da K S H (.int i) (.int i)
  | str (x : Str) : Da K S H (.str x) (.str x)
  | lst {a : Addr} {xs : List V} {ds : List PyData} : a ∉ S → SqL K H a xs → DaAll K S H xs ds → Da K S H (.ref a) (.list ds)
  | tup {a : Addr} {xs : List V} {ds : List PyData} : SqT K H a xs → DaAll K S H xs ds → Da K S H (.ref a) (.tuple ds)
inductive DaAll (K : PySem.W.Frag) (S : List Addr) (H : Hp) : List V → List PyData → Prop
  | nil : DaAll K S H [] []
  | cons {v : V} {vs : List V} {d : PyData} {ds : List PyData} : Da K S H v d → DaAll K S H vs ds → DaAll K S H (v :: vs) (d :: ds)
end
section
variable {K : PySem.W.Frag} {S S' : List Addr} {H H' : Hp}
mutual
theorem Da.ex (e : Ex S' H H') (sub : ∀ b ∈ S', b ∈ S) : ∀ {v : V} {d : PyData}, Da K S H v d → Da K S H' v d
  | _, _, .non => .non
  | _, _, .bl b => .bl b
  | _, _, .int i => .int i
  | _, _, .str x => .str x
  | _, _, .lst n h r => .lst n (e.seqL h fun z => n (sub _ z)) (DaAll.ex e sub r)
  | _, _, .tup h r => .tup (e.seqT h) (DaAll.ex e sub r)
theorem DaAll.ex (e : Ex S' H H') (sub : ∀ b ∈ S', b ∈ S) : ∀ {vs : List V} {ds : List PyData}, DaAll K S H vs ds → DaAll K S H' vs ds
  | _, _, .nil => .nil
  | _, _, .cons h r => .cons (Da.ex e sub h) (DaAll.ex e sub r)
end
mutual
theorem Da.dp : ∀ {v : V} {d : PyData}, Da K S H v d → Dp K H v d
  | _, _, .non => .non
  | _, _, .bl b => .bl b
  | _, _, .int i => .int i
  | _, _, .str x => .str x
  | _, _, .lst _ h r => .lst h (DaAll.dp r)
  | _, _, .tup h r => .tup h (DaAll.dp r)
theorem DaAll.dp : ∀ {vs : List V} {ds : List PyData}, DaAll K S H vs ds → DpAll K H vs ds
  | _, _, .nil => .nil
  | _, _, .cons h r => .cons (Da.dp h) (DaAll.dp r)
end
mutual
theorem Da.less (sub : ∀ b ∈ S', b ∈ S) : ∀ {v : V} {d : PyData}, Da K S H v d → Da K S' H v d
  | _, _, .non => .non
  | _, _, .bl b => .bl b
  | _, _, .int i => .int i
  | _, _, .str x => .str x
  | _, _, .lst n h r => .lst (fun z => n (sub _ z)) h (DaAll.less sub r)
  | _, _, .tup h r => .tup h (DaAll.less sub r)
theorem DaAll.less (sub : ∀ b ∈ S', b ∈ S) : ∀ {vs : List V} {ds : List PyData}, DaAll K S H vs ds → DaAll K S' H vs ds
  | _, _, .nil => .nil
  | _, _, .cons h r => .cons (Da.less sub h) (DaAll.less sub r)
end
mutual
theorem Tp.da : ∀ {v : V} {d : PyData}, Tp K H v d → Da K S H v d
  | _, _, .non => .non
  | _, _, .bl b => .bl b
  | _, _, .int i => .int i
  | _, _, .str x => .str x
  | _, _, .tup h r => .tup h (TpAll.da r)
theorem TpAll.da : ∀ {vs : List V} {ds : List PyData}, TpAll K H vs ds → DaAll K S H vs ds
  | _, _, .nil => .nil
  | _, _, .cons h r => .cons (Tp.da h) (TpAll.da r)
end
theorem DaAll.len {vs : List V} {ds : List PyData} (h : DaAll K S H vs ds) : vs.length = ds.length := by
  induction vs generalizing ds with
  | nil => cases h; rfl
  | cons v vs ih => cases h with | cons a b => rw [List.length_cons, List.length_cons, ih b]
theorem DaAll.get {vs : List V} {ds : List PyData} (h : DaAll K S H vs ds) : ∀ {i : Nat} {v : V}, vs[i]? = some v → ∃ d, ds[i]? = some d ∧ Da K S H v d := by
  induction vs generalizing ds with
  | nil => intro i v e; simp at e
  | cons v0 vs ih =>
    cases h with
    | cons a b =>
      intro i v e
      cases i with
      | zero => cases e; exact ⟨_, rfl, a⟩
      | succ i => exact ih b (i := i) (by simpa using e)
theorem DaAll.app {vs us : List V} {ds es : List PyData} (h : DaAll K S H vs ds) (g : DaAll K S H us es) : DaAll K S H (vs ++ us) (ds ++ es) := by
  induction vs generalizing ds with
  | nil => cases h; exact g
  | cons v vs ih => cases h with | cons a b => exact .cons a (ih b)
theorem DaAll.take {vs : List V} {ds : List PyData} (h : DaAll K S H vs ds) : ∀ n, DaAll K S H (vs.take n) (ds.take n) := by
  induction vs generalizing ds with
  | nil => cases h; intro n; rw [List.take_nil, List.take_nil]; exact .nil
  | cons v vs ih =>
    cases h with
    | cons a b =>
      intro n
      cases n with
      | zero => exact .nil
      | succ n => exact .cons a (ih b n)
theorem DaAll.drop {vs : List V} {ds : List PyData} (h : DaAll K S H vs ds) : ∀ n, DaAll K S H (vs.drop n) (ds.drop n) := by
  induction vs generalizing ds with
  | nil => cases h; intro n; rw [List.drop_nil, List.drop_nil]; exact .nil
  | cons v vs ih =>
    cases h with
    | cons a b =>
      intro n
      cases n with
      | zero => exact .cons a b
      | succ n => exact ih b n
/-- a cut of a tuple -/
theorem da_cut {a : Addr} {xs : List V} {ds : List PyData} {lo hi : Option Int} {Q : VK} (hs : SqT K H a xs) (h : DaAll K S H xs ds)
    (q : ∀ p H' ys es, Ex [] H H' → SqT K H' p ys → DaAll K S H' ys es → es.length ≤ ds.length → (∀ d ∈ es, d ∈ ds) → Q (.ref p) H') : rSlA K (.ref a) lo hi H Q := by
  refine ⟨a, xs, rfl, hs, fun _ => q a H xs ds .refl hs h (Nat.le_refl _) fun _ z => z, fun _ p np => ?_⟩
  have x : Ex [] H (upd H p (.tup (cutV xs lo hi))) := .new np
  have hc : ∃ i j, cutV xs lo hi = (xs.drop i).take j := ⟨_, _, rfl⟩
  obtain ⟨i, j, e⟩ := hc
  refine q p _ (cutV xs lo hi) ((ds.drop i).take j) x (.of upd_same) ?_ ?_ ?_
  · rw [e] at x ⊢; exact ((h.drop i).take j).ex x fun _ z => by cases z
  · rw [List.length_take, List.length_drop]; omega
  · intro d m; exact List.mem_of_mem_drop (List.mem_of_mem_take m)
/-- two tuples, one behind the other -/
theorem da_cat {a b : Addr} {xs ys : List V} {ds es : List PyData} {Q : VK} (ha : SqT K H a xs) (hb : SqT K H b ys) (da : DaAll K S H xs ds) (db : DaAll K S H ys es) (hl : ds.length + es.length ≤ 1000)
    (q : ∀ p H' zs, Ex [] H H' → SqT K H' p zs → DaAll K S H' zs (ds ++ es) → Q (.ref p) H') : rCatA K (.ref a) (.ref b) H Q := by
  have l1 := da.len
  have l2 := db.len
  refine ⟨a, b, xs, ys, rfl, rfl, ha, hb, by rw [l1, l2]; exact Nat.le_trans hl (by decide), fun z => ?_, fun _ z => ?_, fun _ _ p np => ?_⟩
  · subst z; cases da; exact q b H ys .refl hb db
  · subst z; cases db; rw [List.append_nil] at q; exact q a H xs .refl ha da
  · exact q p _ _ (.new np) (.of upd_same) ((da.app db).ex (.new (xs := []) np) fun _ z => by cases z)
theorem tp_cat {a b : Addr} {xs ys : List V} {ds es : List PyData} {Q : VK} (ha : SqT K H a xs) (hb : SqT K H b ys) (da : TpAll K H xs ds) (db : TpAll K H ys es) (hl : ds.length + es.length ≤ 1000)
    (q : ∀ p H' zs, Ex [] H H' → SqT K H' p zs → TpAll K H' zs (ds ++ es) → Q (.ref p) H') : rCatA K (.ref a) (.ref b) H Q := by
  have l1 := da.len
  have l2 := db.len
  refine ⟨a, b, xs, ys, rfl, rfl, ha, hb, by rw [l1, l2]; exact Nat.le_trans hl (by decide), fun z => ?_, fun _ z => ?_, fun _ _ p np => ?_⟩
  · subst z; cases da; exact q b H ys .refl hb db
  · subst z; cases db; rw [List.append_nil] at q; exact q a H xs .refl ha da
  · exact q p _ _ (.new np) (.of upd_same) ((da.app db).ex (.new (xs := []) np))
end
section
variable {X : Cx} {K : PySem.W.Frag}
theorem yesA (n : Nat) : (List.range n).all (fun _ => true) = true := by simp
/-- a tuple held against () -/
theorem op_eqNilT (h : X.K = K) (hu : X.A.units + 64 < cLine) : OpR X (compareOp .Eq) (fun x y H Q => ∃ a b xs, x = .ref a ∧ y = .ref b ∧ SqT K H a xs ∧ SqT K H b [] ∧ Q (.bl xs.isEmpty) H) := by
  subst h
  intro pins s σ H x y v u Q I rx ry h
  obtain ⟨a, b, xs, rfl, rfl, ha, hb, q⟩ := h
  cases (show v = Value.ref a from rx)
  cases (show u = Value.ref b from ry)
  obtain ⟨its, r, pt, hz⟩ := I.tuple ha
  obtain ⟨its2, r2, pt2, hz2⟩ := I.tuple hb
  cases r2
  refine SeqAt.eq_tupleAt (e := fun _ => true) pt pt2 (by omega) (fun j h1 h2 => absurd h2 (Nat.not_lt_zero j)) ⟨.bl xs.isEmpty, H, I, ?_, q⟩
  rw [yesA]
  cases r with
  | nil => rfl
  | cons _ _ => simp; rfl
end
end Kk

namespace K10
open PySem PySem.Spec PyProof.Rows L2 Kk
def topS (i : Nat) : Stmt := PySem.Challenge.pw_wipeways_k10_words_one_by_one.main.body.getD i (.Pass ⟨0, 0, 0, 0⟩)
abbrev s_is_whole : Stmt := topS 7
abbrev s_first : Stmt := topS 15
abbrev s_choices : Stmt := topS 21
abbrev s_empties : Stmt := topS 23
abbrev s_finit : Stmt := inClass (topS 27) 0
abbrev s_holds : Stmt := inClass (topS 27) 1
theorem sc_is_whole : FnScope ["thing"] ["thing"] (defScope s_is_whole) := ⟨rfl, rfl, rfl, by decide +kernel, rfl, by decide +kernel, by decide +kernel⟩
theorem sc_first : FnScope ["program", "name"] ["program", "name"] (defScope s_first) := ⟨rfl, rfl, rfl, by decide +kernel, rfl, by decide +kernel, by decide +kernel⟩
theorem sc_choices : FnScope ["word"] ["word"] (defScope s_choices) := ⟨rfl, rfl, rfl, by decide +kernel, rfl, by decide +kernel, by decide +kernel⟩
theorem sc_empties : FnScope ["word", "box"] ["word", "box"] (defScope s_empties) := ⟨rfl, rfl, rfl, by decide +kernel, rfl, by decide +kernel, by decide +kernel⟩
theorem sc_finit : FnScope ["self", "place"] ["self", "place"] (defScope s_finit) := ⟨rfl, rfl, rfl, by decide +kernel, rfl, by decide +kernel, by decide +kernel⟩
theorem sc_holds : FnScope ["self", "box"] ["self", "box"] (defScope s_holds) := ⟨rfl, rfl, rfl, by decide +kernel, rfl, by decide +kernel, by decide +kernel⟩
/-! boxes, and what they hold -/
abbrev Bq := Str
abbrev Wv := Int × List Str
def qK (q : Bq) : Key := .inr q
def wvD (x : Wv) : PyData := .tuple [.int x.1, .tuple (x.2.map .str)]
theorem qK_inj {q r : Bq} (h : qK q = qK r) : q = r := Sum.inr.inj h
/-- a dict of boxes that hold f; at most n of them -/
def Hd (K : PySem.W.Frag) (H : Hp) (b : Addr) (kd Ws : List Str) (n : Nat) (f : Bq → Wv) : Prop := ∃ kvs : List (Key × V), H b = some (.dK kvs) ∧ kvs.length ≤ n ∧ (kvs.map (·.1)).Nodup ∧ (∀ kv ∈ kvs, ∃ q : Bq, kv.1 = qK q ∧ q ∈ kd) ∧
  (∀ q v, valV kvs (qK q) = some v → Tp K H v (wvD (f q))) ∧ (∀ q, valV kvs (qK q) = none → f q = (0, [])) ∧ ∀ q, (f q).2.Nodup ∧ ∀ s ∈ (f q).2, s ∈ Ws
def setF (f : Bq → Wv) (q : Bq) (x : Wv) : Bq → Wv := fun r => if r = q then x else f r
theorem putK_keys {κ : Type} [DecidableEq κ] (kvs : List (κ × V)) (k : κ) (v : V) : (putK kvs k v).map (·.1) = if k ∈ kvs.map (·.1) then kvs.map (·.1) else kvs.map (·.1) ++ [k] := by
  unfold putK
  by_cases h : (kvs.any fun kv => decide (kv.1 = k)) = true
  · have m : k ∈ kvs.map (·.1) := by
      obtain ⟨x, hx, e⟩ := List.any_eq_true.mp h
      exact List.mem_map.mpr ⟨x, hx, of_decide_eq_true e⟩
    rw [if_pos h, if_pos m, List.map_map]
    refine List.map_congr_left fun x _ => ?_
    show (if x.1 = k then (x.1, v) else x).1 = x.1
    split <;> rfl
  · have m : ¬ k ∈ kvs.map (·.1) := fun z => h (by
      obtain ⟨x, hx, e⟩ := List.mem_map.mp z
      exact List.any_eq_true.mpr ⟨x, hx, decide_eq_true e⟩)
    rw [if_neg h, if_neg m, List.map_append]; rfl
theorem Hd.ex {K : PySem.W.Frag} {H H' : Hp} {b : Addr} {kd Ws : List Str} {n : Nat} {f : Bq → Wv} {xs : List Addr} (h : Hd K H b kd Ws n f) (e : Ex xs H H') (m : b ∉ xs) : Hd K H' b kd Ws n f := by
  obtain ⟨kvs, h1, h2, h3, h4, h5, h6, h7⟩ := h
  exact ⟨kvs, e.a b _ m h1 (fun _ z => by cases z), h2, h3, h4, fun q v hv => (h5 q v hv).ex e, h6, h7⟩
theorem Hd.mono {K : PySem.W.Frag} {H : Hp} {b : Addr} {kd Ws : List Str} {n m : Nat} {f : Bq → Wv} (h : Hd K H b kd Ws n f) (e : n ≤ m) : Hd K H b kd Ws m f := by
  obtain ⟨kvs, h1, h2, r⟩ := h
  exact ⟨kvs, h1, Nat.le_trans h2 e, r⟩
theorem Hd.put {K : PySem.W.Frag} {H : Hp} {b : Addr} {kd Ws : List Str} {n : Nat} {f : Bq → Wv} {kvs : List (Key × V)} {q : Bq} {v : V} {x : Wv} (h1 : H b = some (.dK kvs)) (h2 : kvs.length ≤ n) (h3 : (kvs.map (·.1)).Nodup) (h4 : ∀ kv ∈ kvs, ∃ q : Bq, kv.1 = qK q ∧ q ∈ kd)
    (h5 : ∀ q v, valV kvs (qK q) = some v → Tp K H v (wvD (f q))) (h6 : ∀ q, valV kvs (qK q) = none → f q = (0, [])) (h7 : ∀ q, (f q).2.Nodup ∧ ∀ s ∈ (f q).2, s ∈ Ws) (hq : q ∈ kd) (hv : Tp K H v (wvD x)) (hx : x.2.Nodup ∧ ∀ s ∈ x.2, s ∈ Ws) :
    Hd K (upd H b (.dK (putK kvs (qK q) v))) b kd Ws (n + 1) (setF f q x) := by
  have e : Ex [b] H (upd H b (.dK (putK kvs (qK q) v))) := .put h1 (fun _ z => by cases z) (by simp)
  have hk := putK_keys kvs (qK q) v
  have vv : ∀ r, valV (putK kvs (qK q) v) (qK r) = if r = q then some v else valV kvs (qK r) := fun r => by
    rw [valV_put]
    by_cases z : r = q
    · rw [if_pos z, if_pos (by rw [z])]
    · rw [if_neg z, if_neg fun y => z (qK_inj y)]
  refine ⟨_, upd_same, Nat.le_trans (length_putK _ _ _) (by omega), ?_, fun kv hkv => ?_, fun r u hu => ?_, fun r hr => ?_, fun r => ?_⟩
  · rw [hk]
    split
    · exact h3
    · rename_i m
      exact List.nodup_append.mpr ⟨h3, by simp, fun a ha b hb => by rw [List.mem_singleton.mp hb]; exact fun z => m (z ▸ ha)⟩
  · have hm : kv.1 ∈ (putK kvs (qK q) v).map (·.1) := List.mem_map.mpr ⟨kv, hkv, rfl⟩
    rw [hk] at hm
    have fin : kv.1 ∈ kvs.map (·.1) → ∃ q : Bq, kv.1 = qK q ∧ q ∈ kd := fun z => by
      obtain ⟨x, hx, ex⟩ := List.mem_map.mp z
      rw [← ex]; exact h4 x hx
    split at hm
    · exact fin hm
    · rcases List.mem_append.mp hm with z | z
      · exact fin z
      · exact ⟨q, List.mem_singleton.mp z, hq⟩
  · rw [vv] at hu
    unfold setF
    split at hu
    · rename_i z
      cases hu
      rw [if_pos z]; exact hv.ex e
    · rename_i z
      rw [if_neg z]; exact (h5 r u hu).ex e
  · rw [vv] at hr
    unfold setF
    split at hr
    · cases hr
    · rename_i z
      rw [if_neg z]; exact h6 r hr
  · unfold setF
    split
    · exact hx
    · exact h7 r
/-- a box, as it stands -/
def BxT (H : Hp) (v : V) (q : Bq) : Prop := v = .str q
theorem BxT.ex {H H' : Hp} {v : V} {q : Bq} {xs : List Addr} (h : BxT H v q) (e : Ex xs H H') : BxT H' v q := h
/-- a frame -/
def FrH (CF : Addr) (H : Hp) (fr b : Addr) (pl : V) : Prop := ∃ dx fs, H fr = some (.ins CF dx fs) ∧ fs.lookup ("boxes" : Str) = some (.ref b) ∧ fs.lookup ("place" : Str) = some pl ∧ fs.lookup ("holds" : Str) = none ∧ fs.lookup ("held" : Str) = none ∧ fs.length ≤ 10
theorem FrH.ex {CF : Addr} {H H' : Hp} {fr b : Addr} {pl : V} {xs : List Addr} (h : FrH CF H fr b pl) (e : Ex xs H H') (m : fr ∉ xs) : FrH CF H' fr b pl := by
  obtain ⟨dx, fs, h1, r⟩ := h
  exact ⟨dx, fs, e.a fr _ m h1 (fun _ z => by cases z), r⟩
structure TF (K : PySem.W.Frag) (mg : Str → Option Value) (CF : Addr) : Prop where
  cl : Cls K CF
  nP : NoAttr K CF "place"
  nB : NoAttr K CF "boxes"
  mgC : mg "Frame" = some (.ref CF)
/-- the module's own tuple of nothing -/
structure Nth (K : PySem.W.Frag) (mg : Str → Option Value) (nA eA : Addr) : Prop where
  m : mg "NOTHING" = some (.ref nA)
  n : ∀ H, SqT K H nA [.int 0, .ref eA]
  e : ∀ H, SqT K H eA []
theorem Nth.tp {K : PySem.W.Frag} {mg : Str → Option Value} {nA eA : Addr} (h : Nth K mg nA eA) (H : Hp) : Tp K H (.ref nA) (wvD (0, [])) := .tup (h.n H) (.cons (.int 0) (.cons (.tup (h.e H) .nil) .nil))
section
variable {P : Program} {w : World} {K : PySem.W.Frag} {mg : Str → Option Value} {base : Heap}
def spWholeI : Sp := fun vs H Q _ => ∃ n : Int, vs = [.int n] ∧ Q (.bl true) H
theorem ok_is_whole {f : Addr} {fd : FuncData} {k : Nat} (F : Fun K "is_whole" "is_whole" s_is_whole f fd) (m_isinstance : mg "isinstance" = none) (m_int : mg "int" = none) (m_bool : mg "bool" = none) : FnOk P w K mg base CX0 (k + 1) f fd ["thing"] spWholeI := by
  refine F.ok sc_is_whole (fun vs H Q E h => ?_) (fun cdv A outer s H vs Q E hr h => ?_)
  · obtain ⟨n, rfl, _⟩ := h; rfl
  · obtain ⟨n, rfl, q⟩ := h
    refine ⟨_, (pss_one (ps_ret (pe_and (pe_callB call_isi (by rfl) m_isinstance (by decide +kernel) (pa_cons (pv 0) (pa_cons (pe_bltn (v := .ty "int") (by rfl) m_int (by decide +kernel) rfl) pa_nil))) (pe_one (pe_not (pe_callB call_isi (by rfl) m_isinstance (by decide +kernel) (pa_cons (pv 0) (pa_cons (pe_bltn (v := .ty "bool") (by rfl) m_bool (by decide +kernel) rfl) pa_nil)))))))), ?_⟩
    refine ⟨.int n, rfl, .int n, .ty "int", .type "int", .type "int", true, rfl, .ty "int", .base (.int n), kit_ty (by decide +kernel), _, rfl, iteT ?_⟩
    exact ⟨.int n, rfl, .int n, .ty "bool", .type "int", .type "bool", false, rfl, .ty "bool", .base (.int n), kit_ty (by decide +kernel), _, rfl, q⟩
def spFirst : Sp := fun vs H Q _ => ∃ (p v : V), vs = [p, v] ∧ ∀ t, H t = none → Q (.ref t) (upd H t (.tup [v, .int 0]))
theorem ok_first {f : Addr} {fd : FuncData} {k : Nat} (F : Fun K "first_place" "first_place" s_first f fd) : FnOk P w K mg base CX0 (k + 1) f fd ["program", "name"] spFirst := by
  refine F.ok sc_first (fun vs H Q E h => ?_) (fun cdv A outer s H vs Q E hr h => ?_)
  · obtain ⟨p, v, rfl, _⟩ := h; rfl
  · obtain ⟨p, v, rfl, q⟩ := h
    refine ⟨_, pss_one (ps_ret (pe_tup (pa_cons (pv 1) (pa_cons pe_int pa_nil)))), ?_⟩
    exact ⟨v, rfl, (by show 2 ≤ sizeLine; decide), fun t nt => q t nt⟩
def spFInit (CF : Addr) : Sp := fun vs H Q _ => ∃ (p dx : Addr) (pl : V), vs = [.ref p, pl] ∧ H p = some (.ins CF dx []) ∧ ∀ H' b, H b = none → Ex [p] H H' → FrH CF H' p b pl → H' b = some (.dK []) → Q .non H'
theorem lk_putF2 {a b : V} {m : Str} (h1 : ¬ m = "boxes") (h2 : ¬ m = "place") : (putF "boxes" b (putF "place" a [])).lookup m = none := by
  rw [lookup_putF, if_neg h1, lookup_putF, if_neg h2]; rfl
theorem ok_finit {f CF : Addr} {fd : FuncData} {k : Nat} (F : Fun K "__init__" "Frame.__init__" s_finit f fd) (T : TF K mg CF) : FnOk P w K mg base CX0 (k + 1) f fd ["self", "place"] (spFInit CF) := by
  refine F.ok sc_finit (fun vs H Q E h => ?_) (fun cdv A outer s H vs Q E hr h => ?_)
  · obtain ⟨p, dx, pl, rfl, _⟩ := h; rfl
  · obtain ⟨p, dx, pl, rfl, hp, q⟩ := h
    refine ⟨_, pss_cons (ps_fld (pv 0) (pv 1) rfl) (pss_one (ps_fld (pv 0) pe_dnewK rfl)), ?_⟩
    refine ⟨pl, rfl, .ref p, rfl, p, CF, dx, [], rfl, hp, T.cl, T.nP, (by show 0 < 1000; decide), fun b nb => ?_⟩
    have nb0 : H b = none := upd_free nb
    have bp : p ≠ b := fun z => by rw [z, nb0] at hp; cases hp
    refine ⟨.ref p, rfl, p, CF, dx, _, rfl, (by rw [upd_ne bp, upd_same]), T.cl, T.nB, (by show 1 < 1000; decide), ?_⟩
    refine q _ b nb0 ?_ ⟨dx, _, upd_same, ?_, ?_, lk_putF2 (by decide +kernel) (by decide +kernel), lk_putF2 (by decide +kernel) (by decide +kernel), ?_⟩ (by rw [upd_ne bp.symm, upd_same])
    · have y1 : Ex [p] H (upd H p (.ins CF dx (putF "place" pl []))) := .put hp (fun _ z => by cases z) (by simp)
      refine (y1.trans (.new nb)).trans (.put (u := .ins CF dx (putF "place" pl [])) ?_ (fun _ z => by cases z) (by simp))
      rw [upd_ne bp, upd_same]
    · rw [lookup_putF, if_pos rfl]
    · rw [lookup_putF, if_neg (by decide +kernel), lookup_putF, if_pos rfl]
    · have := length_putF "boxes" (.ref b) (putF "place" pl [])
      have := length_putF "place" pl []
      simp only [List.length_nil] at *
      omega
def spHolds (K : PySem.W.Frag) (CF : Addr) : Sp := fun vs H Q _ => ∃ (fr b : Addr) (pl v : V) (q : Bq) (kd Ws : List Str) (n : Nat) (f : Bq → Wv), vs = [.ref fr, v] ∧ FrH CF H fr b pl ∧ Hd K H b kd Ws n f ∧ BxT H v q ∧ ∀ u, Tp K H u (wvD (f q)) → Q u H
theorem ok_holds {f CF nA eA : Addr} {fd : FuncData} {k : Nat} (F : Fun K "holds" "Frame.holds" s_holds f fd) (T : TF K mg CF) (N : Nth K mg nA eA) : FnOk P w K mg base CX0 (k + 1) f fd ["self", "box"] (spHolds K CF) := by
  refine F.ok sc_holds (fun vs H Q E h => ?_) (fun cdv A outer s H vs Q E hr h => ?_)
  · obtain ⟨fr, b, pl, v, q, kd, Ws, n, f, rfl, _⟩ := h; rfl
  · obtain ⟨fr, b, pl, v, q, kd, Ws, n, f, rfl, ⟨dx, fs, h1, h2, _⟩, ⟨kvs, k1, k2, k3, k4, k5, k6, k7⟩, rfl, hq⟩ := h
    refine ⟨_, pss_one (ps_ret (pe_dget2 (hu_of hr) (pe_fld (pv 0) rfl) (pv 1) (pe_glob (v := .ref nA) rfl N.m rfl) ⟨rfl, rfl, rfl, rfl⟩)), ?_⟩
    refine ⟨.ref fr, rfl, fr, CF, dx, fs, .ref b, rfl, h1, T.cl, T.nB, h2, b, rfl, .inl ⟨kvs, .inl k1⟩, .str q, rfl, valV kvs (qK q), DGet.k (k := qK q) k1, ?_⟩
    cases hv : valV kvs (qK q) with
    | none =>
      refine hq _ ?_
      rw [k6 q hv]; exact N.tp H
    | some u => exact hq u (k5 q u hv)
end
end K10

namespace Kk
open PySem PySem.Spec PyProof.Rows L2
def leS (a b : Str) : Prop := a.cps.toList ≤ b.cps.toList
theorem leS_of {a b : Str} (h : ltCps b.cps.toList a.cps.toList = false) : leS a b := by
  rw [ltCps_eq] at h
  exact List.not_lt.mp (of_decide_eq_false h)
theorem leS_trans {a b c : Str} (h : leS a b) (g : leS b c) : leS a c := List.le_trans h g
theorem leS_anti {a b : Str} (h : leS a b) (g : leS b a) : a = b := by
  have e : a.cps.toList = b.cps.toList := List.le_antisymm h g
  cases a; cases b
  simp only at e
  congr
  exact Array.ext' e
theorem pw_rise : ∀ (l : List Str) (p : Str), risingS p l = true → (p :: l).Pairwise leS
  | [], p, _ => List.pairwise_singleton _ _
  | x :: r, p, h => by
    have h' : (!ltCps x.cps.toList p.cps.toList && risingS x r) = true := h
    rw [Bool.and_eq_true] at h'
    have h1 : leS p x := leS_of (by simpa using h'.1)
    have h2 := pw_rise r x h'.2
    refine List.pairwise_cons.mpr ⟨fun y hy => ?_, h2⟩
    rcases List.mem_cons.mp hy with z | z
    · rw [z]; exact h1
    · exact leS_trans h1 (List.rel_of_pairwise_cons h2 z)
theorem pw_sorted {l : List Str} (h : sortedS l = true) : l.Pairwise leS := by
  cases l with
  | nil => exact List.Pairwise.nil
  | cons x r => exact pw_rise r x h
theorem srt_uniq : ∀ (a b : List Str), a.Pairwise leS → b.Pairwise leS → a.Nodup → b.Nodup → (∀ x, x ∈ a ↔ x ∈ b) → a = b
  | [], [], _, _, _, _, _ => rfl
  | [], y :: b, _, _, _, _, h => by have := (h y).mpr List.mem_cons_self; cases this
  | x :: a, [], _, _, _, _, h => by have := (h x).mp List.mem_cons_self; cases this
  | x :: a, y :: b, pa, pb, na, nb, h => by
    have e : x = y := by
      rcases List.mem_cons.mp ((h x).mp List.mem_cons_self) with z | z
      · exact z
      · rcases List.mem_cons.mp ((h y).mpr List.mem_cons_self) with z2 | z2
        · exact z2.symm
        · exact leS_anti (List.rel_of_pairwise_cons pa z2) (List.rel_of_pairwise_cons pb z)
    subst e
    have na' := List.nodup_cons.mp na
    have nb' := List.nodup_cons.mp nb
    rw [srt_uniq a b (List.pairwise_cons.mp pa).2 (List.pairwise_cons.mp pb).2 na'.2 nb'.2 fun z => ?_]
    constructor
    · intro hz
      rcases List.mem_cons.mp ((h z).mp (List.mem_cons_of_mem _ hz)) with q | q
      · rw [q] at hz; exact absurd hz na'.1
      · exact q
    · intro hz
      rcases List.mem_cons.mp ((h z).mpr (List.mem_cons_of_mem _ hz)) with q | q
      · rw [q] at hz; exact absurd hz nb'.1
      · exact q
/-- the texts of a list, each once, rising -/
def SU (ws ys : List Str) : Prop := sortedS ys = true ∧ ys.Nodup ∧ ∀ k, k ∈ ys ↔ k ∈ ws
theorem SU.uniq {ws ys zs : List Str} (h : SU ws ys) (g : SU ws zs) : ys = zs := srt_uniq ys zs (pw_sorted h.1) (pw_sorted g.1) h.2.1 g.2.1 fun x => by rw [h.2.2 x, g.2.2 x]
noncomputable def sortU (ws : List Str) : List Str := Classical.epsilon (SU ws)
theorem SU.eq {ws ys : List Str} (h : SU ws ys) : sortU ws = ys := SU.uniq (Classical.epsilon_spec ⟨ys, h⟩) h
theorem rise_pw : ∀ (l : List Str) (p : Str), (p :: l).Pairwise leS → risingS p l = true
  | [], p, _ => rfl
  | x :: r, p, h => by
    show (!ltCps x.cps.toList p.cps.toList && risingS x r) = true
    have h1 : leS p x := List.rel_of_pairwise_cons h List.mem_cons_self
    rw [rise_pw r x (List.pairwise_cons.mp h).2, Bool.and_true, ltCps_eq]
    have : ¬ x.cps.toList < p.cps.toList := List.not_lt.mpr h1
    simp [this]
theorem sorted_pw {l : List Str} (h : l.Pairwise leS) : sortedS l = true := by
  cases l with
  | nil => rfl
  | cons x r => exact rise_pw r x h
theorem dedup_ex : ∀ ws : List Str, ∃ zs : List Str, zs.Nodup ∧ ∀ k, k ∈ zs ↔ k ∈ ws
  | [] => ⟨[], by simp, fun k => Iff.rfl⟩
  | w :: ws => by
    obtain ⟨zs, h1, h2⟩ := dedup_ex ws
    by_cases m : w ∈ zs
    · refine ⟨zs, h1, fun k => ?_⟩
      rw [h2 k, List.mem_cons]
      refine ⟨.inr, fun z => z.elim (fun e => ?_) id⟩
      rw [e]; exact (h2 w).mp m
    · exact ⟨w :: zs, List.nodup_cons.mpr ⟨m, h1⟩, fun k => by rw [List.mem_cons, List.mem_cons, h2 k]⟩
open Classical in
theorem su_ex (ws : List Str) : ∃ ys, SU ws ys := by
  obtain ⟨zs, h1, h2⟩ := dedup_ex ws
  have pm := List.mergeSort_perm zs (fun a b => decide (leS a b))
  refine ⟨zs.mergeSort (fun a b => decide (leS a b)), sorted_pw ?_, pm.nodup_iff.mpr h1, fun k => by rw [pm.mem_iff, h2 k]⟩
  have := List.pairwise_mergeSort (le := fun a b => decide (leS a b)) (fun a b c hab hbc => decide_eq_true (leS_trans (of_decide_eq_true hab) (of_decide_eq_true hbc)))
    (fun a b => by
      rcases List.le_total a.cps.toList b.cps.toList with z | z
      · rw [Bool.or_eq_true]; exact .inl (decide_eq_true z)
      · rw [Bool.or_eq_true]; exact .inr (decide_eq_true z)) zs
  exact this.imp fun z => of_decide_eq_true z
theorem sortU_ok (ws : List Str) : SU ws (sortU ws) := Classical.epsilon_spec (su_ex ws)
end Kk

set_option maxHeartbeats 4000000
namespace K10
open PySem PySem.Spec PyProof.Rows L2 Kk
abbrev s_rec : Stmt := topS 4
theorem sc_rec : FnScope ["box", "name"] ["box", "name"] (defScope s_rec) := ⟨rfl, rfl, rfl, by decide +kernel, rfl, by decide +kernel, by decide +kernel⟩
abbrev s_put : Stmt := topS 29
abbrev n_put : List Str := ["word", "frame", "answer", "number", "worths", "other", "more"]
theorem sc_put : FnScope n_put ["word", "frame", "answer"] (defScope s_put) := ⟨rfl, rfl, rfl, by decide +kernel, rfl, by decide +kernel, by decide +kernel⟩
theorem sN {a b : Str} (h : ¬ a = b) {A B : Prop} (x : B) : if decide (V.str a = V.str b) = true then A else B := by
  rw [if_neg fun e => h (V.str.inj (of_decide_eq_true e))]; exact x
theorem sY {a : Str} {A B : Prop} (x : A) : if decide (V.str a = V.str a) = true then A else B := by
  rw [if_pos (decide_eq_true rfl)]; exact x
theorem at0 {α : Type} {x : α} {xs : List α} : atI (x :: xs) 0 = some x := atI_nat (j := 0) rfl
theorem at1 {α : Type} {x y : α} {xs : List α} : atI (x :: y :: xs) 1 = some y := atI_nat (j := 1) rfl
theorem at2 {α : Type} {x y z : α} {xs : List α} : atI (x :: y :: z :: xs) 2 = some z := atI_nat (j := 2) rfl
theorem at3 {α : Type} {x y z u : α} {xs : List α} : atI (x :: y :: z :: u :: xs) 3 = some u := atI_nat (j := 3) rfl
theorem l0 : (0 : Nat) ≤ sizeLine := by decide
theorem l1 : (1 : Nat) ≤ sizeLine := by decide
theorem l2 : (2 : Nat) ≤ sizeLine := by decide
theorem l3 : (3 : Nat) ≤ sizeLine := by decide
def dotS : Str := Str.ofString "."
/-! words of a row without rows in it -/
inductive Wo
  | take (b s : Str)
  | ask (b : Str)
  | number (b : Str) (n : Int)
  | copy (b c : Str)
  | mix (b c d : Str)
  | opn (b c : Str)
  | tell (b : Str)
  | wipe (b : Str)
  | clear (x : Str)
  | drop (bs : List Str)
  | risk (x : Str)
  | fault (x : Str)
  | back
  | call (x : Str)
def kW : Wo → Str
  | .take _ _ => Str.ofString "take"
  | .ask _ => Str.ofString "ask"
  | .number _ _ => Str.ofString "number"
  | .copy _ _ => Str.ofString "copy"
  | .mix _ _ _ => Str.ofString "mix"
  | .opn _ _ => Str.ofString "open"
  | .tell _ => Str.ofString "tell"
  | .wipe _ => Str.ofString "wipe"
  | .clear _ => Str.ofString "clear"
  | .drop _ => Str.ofString "drop"
  | .risk _ => Str.ofString "risk"
  | .fault _ => Str.ofString "fault"
  | .back => Str.ofString "back"
  | .call _ => Str.ofString "call"
def pW : Wo → List PyData
  | .take b s => [.str b, .str s]
  | .ask b => [.str b]
  | .number b n => [.str b, .int n]
  | .copy b c => [.str b, .str c]
  | .mix b c d => [.str b, .str c, .str d]
  | .opn b c => [.str b, .str c]
  | .tell b => [.str b]
  | .wipe b => [.str b]
  | .clear x => [.str x]
  | .drop bs => [.tuple (bs.map .str)]
  | .risk x => [.str x]
  | .fault x => [.str x]
  | .back => []
  | .call x => [.str x, .tuple [], .tuple []]
def wD (W : Wo) : PyData := .tuple (.str (kW W) :: pW W)
def chW : Wo → Int
  | .take _ _ => 10000
  | .ask _ => 10000
  | .risk _ => 2
  | _ => 0
noncomputable def valW (f : Bq → Wv) (ans : Int) : Wo → Wv
  | .take _ s => (ans, [s])
  | .ask _ => (ans, [])
  | .number _ n => (n, [])
  | .copy _ c => f c
  | .mix _ c d => (((f c).1 + 2 * (f d).1) % 10007, sortU ((f c).2 ++ (f d).2))
  | .opn _ c => ((f c).1 % 2, [])
  | _ => (0, [])
def isPut : Wo → Bool
  | .take _ _ => true
  | .ask _ => true
  | .number _ _ => true
  | .copy _ _ => true
  | .mix _ _ _ => true
  | .opn _ _ => true
  | _ => false
def boxW : Wo → Bq
  | .take b _ => b
  | .ask b => b
  | .number b _ => b
  | .copy b _ => b
  | .mix b _ _ => b
  | .opn b _ => b
  | .tell b => b
  | .wipe b => b
  | _ => Str.ofString ""
/-- a word, as it stands -/
theorem word_in {K : PySem.W.Frag} {H : Hp} {v : V} {W : Wo} (h : Tp K H v (wD W)) : ∃ a r, v = .ref a ∧ SqT K H a (.str (kW W) :: r) ∧ TpAll K H r (pW W) := by
  unfold wD at h
  cases h with
  | tup hs ha =>
    rename_i a xs
    cases ha with
    | cons h0 hr =>
      cases h0
      exact ⟨a, _, rfl, hs, hr⟩
theorem one_s {K : PySem.W.Frag} {H : Hp} {r : List V} {b : Str} {ds : List PyData} (h : TpAll K H r (.str b :: ds)) : ∃ r', r = .str b :: r' ∧ TpAll K H r' ds := by
  cases h with
  | cons h0 hr => cases h0; exact ⟨_, rfl, hr⟩
theorem one_i {K : PySem.W.Frag} {H : Hp} {r : List V} {n : Int} {ds : List PyData} (h : TpAll K H r (.int n :: ds)) : ∃ r', r = .int n :: r' ∧ TpAll K H r' ds := by
  cases h with
  | cons h0 hr => cases h0; exact ⟨_, rfl, hr⟩
theorem no_v {K : PySem.W.Frag} {H : Hp} {r : List V} (h : TpAll K H r []) : r = [] := by cases h; rfl
theorem strs_inv {K : PySem.W.Frag} {H : Hp} : ∀ {xs : List V} {ws : List Str}, TpAll K H xs (ws.map PyData.str) → xs = ws.map V.str
  | _, [], h => by cases h; rfl
  | _, w :: ws, h => by
    cases h with
    | cons a b => cases a; rw [strs_inv b]; rfl
/-- what a box holds, taken apart -/
theorem wv_inv {K : PySem.W.Frag} {H : Hp} {v : V} {x : Wv} (h : Tp K H v (wvD x)) : ∃ a c, v = .ref a ∧ SqT K H a [.int x.1, .ref c] ∧ SqT K H c (x.2.map V.str) := by
  unfold wvD at h
  cases h with
  | tup hs ha =>
    rename_i a xs
    cases ha with
    | cons h1 h2 =>
      cases h1
      cases h2 with
      | cons h3 h4 =>
        cases h4
        cases h3 with
        | tup hs2 ha2 =>
          rename_i c ys
          rw [strs_inv ha2] at hs2
          exact ⟨a, c, rfl, hs, hs2⟩
theorem wv_mk {K : PySem.W.Frag} {H : Hp} {a c : Addr} {n : Int} {ws : List Str} (h1 : SqT K H a [.int n, .ref c]) (h2 : SqT K H c (ws.map V.str)) : Tp K H (.ref a) (wvD (n, ws)) :=
  .tup h1 (.cons (.int n) (.cons (.tup h2 (TpAll.strs ws)) .nil))
section
variable {P : Program} {w : World} {K : PySem.W.Frag} {mg : Str → Option Value} {base : Heap}
def spRec : Sp := fun vs H Q _ => ∃ a b : Str, vs = [.str a, .str b] ∧ b.length ≤ 1000 ∧ Q (.bl (Txt.startswith a (b ++ dotS))) H
theorem ok_rec {f : Addr} {fd : FuncData} {k : Nat} (F : Fun K "in_record" "in_record" s_rec f fd) : FnOk P w K mg base CX0 (k + 1) f fd ["box", "name"] spRec := by
  refine F.ok sc_rec (fun vs H Q E h => ?_) (fun cdv A outer s H vs Q E hr h => ?_)
  · obtain ⟨a, b, rfl, _⟩ := h; rfl
  · obtain ⟨a, b, rfl, hb, q⟩ := h
    refine ⟨_, pss_one (ps_ret (pe_m1 PySem.F.slot_str_startswith PySem.F.type_str_startswith mt_startswith (pv 0) (pe_op op_add_str (pv 1) pe_str))), ?_⟩
    refine ⟨.str a, rfl, ⟨a, rfl⟩, .str b, rfl, b, dotS, rfl, rfl, ?_, a, b ++ dotS, rfl, rfl, q⟩
    have e : dotS.length = 1 := by decide +kernel
    rw [e]; exact Nat.le_trans (Nat.add_le_add_right hb 1) (by decide)
/-- how many answers: by the word's first part -/
def spChoices (K : PySem.W.Frag) : Sp := fun vs H Q _ => ∃ (v : V) (W : Wo), vs = [v] ∧ Tp K H v (wD W) ∧ Q (.int (chW W)) H
theorem ok_choices {f : Addr} {fd : FuncData} {k : Nat} (F : Fun K "choices_of" "choices_of" s_choices f fd) (g_MN : ∃ t, mg "MOST_NUMBER" = some (.int 9999 t)) : FnOk P w K mg base CX0 (k + 1) f fd ["word"] (spChoices K) := by
  obtain ⟨t1, g1⟩ := g_MN
  refine F.ok sc_choices (fun vs H Q E h => ?_) (fun cdv A outer s H vs Q E hr h => ?_)
  · obtain ⟨v, W, rfl, _⟩ := h; rfl
  · obtain ⟨v, W, rfl, hw, q⟩ := h
    refine ⟨_, (pss_cons (ps_if (PW.pt (pw_or (pt_cmpR op_eq (pe_ix ix_tup (pv 0) pe_int (fun _ _ => rfl)) pe_str (nomark _)) (pw_or1 (pt_cmpR op_eq (pe_ix ix_tup (pv 0) pe_int (fun _ _ => rfl)) pe_str (nomark _))))) (pss_one (ps_ret (pe_op op_add (pe_glob (v := .int 9999) rfl g1 ⟨_, rfl⟩) pe_int))) pss_nil)
      (pss_cons (ps_if (pt_cmpR op_eq (pe_ix ix_tup (pv 0) pe_int (fun _ _ => rfl)) pe_str (nomark _)) (pss_one ps_nv) pss_nil)
      (pss_cons (ps_if (pt_cmpR op_eq (pe_ix ix_tup (pv 0) pe_int (fun _ _ => rfl)) pe_str (nomark _)) (pss_one (ps_ret pe_int)) pss_nil)
      (pss_one (ps_ret pe_int))))), ?_⟩
    obtain ⟨a, r, rfl, hs, _⟩ := word_in hw
    rcases (show (kW W = Str.ofString "take" ∧ chW W = 10000) ∨ (kW W = Str.ofString "ask" ∧ chW W = 10000) ∨ (kW W = Str.ofString "risk" ∧ chW W = 2) ∨ (¬ kW W = Str.ofString "take" ∧ ¬ kW W = Str.ofString "ask" ∧ ¬ kW W = Str.ofString "choose" ∧ ¬ kW W = Str.ofString "risk" ∧ chW W = 0) by
      cases W with
      | take b s => exact .inl ⟨rfl, rfl⟩
      | ask b => exact .inr (.inl ⟨rfl, rfl⟩)
      | risk x => exact .inr (.inr (.inl ⟨rfl, rfl⟩))
      | number b n => exact .inr (.inr (.inr ⟨(by decide +kernel : ¬ Str.ofString "number" = Str.ofString "take"), (by decide +kernel : ¬ Str.ofString "number" = Str.ofString "ask"), (by decide +kernel : ¬ Str.ofString "number" = Str.ofString "choose"), (by decide +kernel : ¬ Str.ofString "number" = Str.ofString "risk"), rfl⟩))
      | copy b c => exact .inr (.inr (.inr ⟨(by decide +kernel : ¬ Str.ofString "copy" = Str.ofString "take"), (by decide +kernel : ¬ Str.ofString "copy" = Str.ofString "ask"), (by decide +kernel : ¬ Str.ofString "copy" = Str.ofString "choose"), (by decide +kernel : ¬ Str.ofString "copy" = Str.ofString "risk"), rfl⟩))
      | mix b c d => exact .inr (.inr (.inr ⟨(by decide +kernel : ¬ Str.ofString "mix" = Str.ofString "take"), (by decide +kernel : ¬ Str.ofString "mix" = Str.ofString "ask"), (by decide +kernel : ¬ Str.ofString "mix" = Str.ofString "choose"), (by decide +kernel : ¬ Str.ofString "mix" = Str.ofString "risk"), rfl⟩))
      | opn b c => exact .inr (.inr (.inr ⟨(by decide +kernel : ¬ Str.ofString "open" = Str.ofString "take"), (by decide +kernel : ¬ Str.ofString "open" = Str.ofString "ask"), (by decide +kernel : ¬ Str.ofString "open" = Str.ofString "choose"), (by decide +kernel : ¬ Str.ofString "open" = Str.ofString "risk"), rfl⟩))
      | tell b => exact .inr (.inr (.inr ⟨(by decide +kernel : ¬ Str.ofString "tell" = Str.ofString "take"), (by decide +kernel : ¬ Str.ofString "tell" = Str.ofString "ask"), (by decide +kernel : ¬ Str.ofString "tell" = Str.ofString "choose"), (by decide +kernel : ¬ Str.ofString "tell" = Str.ofString "risk"), rfl⟩))
      | wipe b => exact .inr (.inr (.inr ⟨(by decide +kernel : ¬ Str.ofString "wipe" = Str.ofString "take"), (by decide +kernel : ¬ Str.ofString "wipe" = Str.ofString "ask"), (by decide +kernel : ¬ Str.ofString "wipe" = Str.ofString "choose"), (by decide +kernel : ¬ Str.ofString "wipe" = Str.ofString "risk"), rfl⟩))
      | clear x => exact .inr (.inr (.inr ⟨(by decide +kernel : ¬ Str.ofString "clear" = Str.ofString "take"), (by decide +kernel : ¬ Str.ofString "clear" = Str.ofString "ask"), (by decide +kernel : ¬ Str.ofString "clear" = Str.ofString "choose"), (by decide +kernel : ¬ Str.ofString "clear" = Str.ofString "risk"), rfl⟩))
      | drop bs => exact .inr (.inr (.inr ⟨(by decide +kernel : ¬ Str.ofString "drop" = Str.ofString "take"), (by decide +kernel : ¬ Str.ofString "drop" = Str.ofString "ask"), (by decide +kernel : ¬ Str.ofString "drop" = Str.ofString "choose"), (by decide +kernel : ¬ Str.ofString "drop" = Str.ofString "risk"), rfl⟩))
      | fault x => exact .inr (.inr (.inr ⟨(by decide +kernel : ¬ Str.ofString "fault" = Str.ofString "take"), (by decide +kernel : ¬ Str.ofString "fault" = Str.ofString "ask"), (by decide +kernel : ¬ Str.ofString "fault" = Str.ofString "choose"), (by decide +kernel : ¬ Str.ofString "fault" = Str.ofString "risk"), rfl⟩))
      | back => exact .inr (.inr (.inr ⟨(by decide +kernel : ¬ Str.ofString "back" = Str.ofString "take"), (by decide +kernel : ¬ Str.ofString "back" = Str.ofString "ask"), (by decide +kernel : ¬ Str.ofString "back" = Str.ofString "choose"), (by decide +kernel : ¬ Str.ofString "back" = Str.ofString "risk"), rfl⟩))
      | call x => exact .inr (.inr (.inr ⟨(by decide +kernel : ¬ Str.ofString "call" = Str.ofString "take"), (by decide +kernel : ¬ Str.ofString "call" = Str.ofString "ask"), (by decide +kernel : ¬ Str.ofString "call" = Str.ofString "choose"), (by decide +kernel : ¬ Str.ofString "call" = Str.ofString "risk"), rfl⟩))) with ⟨e1, e2⟩ | ⟨e1, e2⟩ | ⟨e1, e2⟩ | ⟨n1, n2, n3, n4, e⟩
    · rw [e2] at q
      rw [e1] at hs
      exact ⟨.ref a, rfl, a, _, 0, _, rfl, rfl, hs, at0, rfl, _, rfl, sY (iteT ⟨9999, 1, rfl, rfl, q⟩)⟩
    · rw [e2] at q
      rw [e1] at hs
      exact ⟨.ref a, rfl, a, _, 0, _, rfl, rfl, hs, at0, rfl, _, rfl, sN (by decide +kernel) ⟨.ref a, rfl, a, _, 0, _, rfl, rfl, hs, at0, rfl, _, rfl, sY ⟨9999, 1, rfl, rfl, q⟩⟩⟩
    · rw [e2] at q
      rw [e1] at hs
      exact ⟨.ref a, rfl, a, _, 0, _, rfl, rfl, hs, at0, rfl, _, rfl, sN (by decide +kernel) ⟨.ref a, rfl, a, _, 0, _, rfl, rfl, hs, at0, rfl, _, rfl, sN (by decide +kernel) ⟨.ref a, rfl, a, _, 0, _, rfl, rfl, hs, at0, rfl, _, rfl, sN (by decide +kernel) ⟨.ref a, rfl, a, _, 0, _, rfl, rfl, hs, at0, rfl, _, rfl, sY q⟩⟩⟩⟩
    · rw [e] at q
      exact ⟨.ref a, rfl, a, _, 0, _, rfl, rfl, hs, at0, rfl, _, rfl, sN n1 ⟨.ref a, rfl, a, _, 0, _, rfl, rfl, hs, at0, rfl, _, rfl, sN n2 ⟨.ref a, rfl, a, _, 0, _, rfl, rfl, hs, at0, rfl, _, rfl, sN n3 ⟨.ref a, rfl, a, _, 0, _, rfl, rfl, hs, at0, rfl, _, rfl, sN n4 q⟩⟩⟩⟩
end
end K10

set_option maxHeartbeats 4000000
namespace K10
open PySem PySem.Spec PyProof.Rows L2 Kk
section
variable {P : Program} {w : World} {K : PySem.W.Frag} {mg : Str → Option Value} {base : Heap}
def spPut (K : PySem.W.Frag) (CF : Addr) : Sp := fun vs H Q _ => ∃ (fr b : Addr) (pl v : V) (W : Wo) (ans : Int) (kd Ws : List Str) (n : Nat) (f : Bq → Wv), vs = [v, .ref fr, .int ans] ∧ Tp K H v (wD W) ∧ isPut W = true ∧ FrH CF H fr b pl ∧ Hd K H b kd Ws n f ∧ Ws.length ≤ 20 ∧
  ∀ H' u, Ex [] H H' → Tp K H' u (wvD (valW f ans W)) → Q u H'
theorem ok_put {f CF fH : Addr} {fd fdH : FuncData} {k : Nat} (F : Fun K "put_by" "put_by" s_put f fd) (T : TF K mg CF) (GH : FnOk P w K mg base CX0 k fH fdH ["self", "box"] (spHolds K CF)) (mH : Meth K CF "holds" fH) (bH : Binds K fdH ["self", "box"] [])
    (g_MB : ∃ t, mg "MIXED_BY" = some (.int 10007 t)) (m_tuple : mg "tuple" = none) (m_sorted : mg "sorted" = none) (m_set : mg "set" = none) : FnOk P w K mg base CX0 (k + 1) f fd ["word", "frame", "answer"] (spPut K CF) := by
  obtain ⟨t1, g1⟩ := g_MB
  refine F.ok sc_put (fun vs H Q E h => ?_) (fun cdv A outer s H vs Q E hr h => ?_)
  · obtain ⟨fr, b, pl, v, W, ans, kd, Ws, n, f, rfl, _⟩ := h; rfl
  · obtain ⟨fr, b, pl, v, W, ans, kd, Ws, n, f, rfl, hw, hp, hF, hD, hW, q⟩ := h
    refine ⟨_, (pss_cons (ps_if (pt_cmpR op_eq (pe_ix ix_tup (pv 0) pe_int (fun _ _ => rfl)) pe_str (nomark _)) (pss_one (ps_ret (pe_tup (pa_cons (pv 2) (pa_cons (pe_tup (pa_cons (pe_ix ix_tup (pv 0) pe_int (fun _ _ => rfl)) pa_nil)) pa_nil))))) pss_nil)
      (pss_cons (ps_if (pt_cmpR op_eq (pe_ix ix_tup (pv 0) pe_int (fun _ _ => rfl)) pe_str (nomark _)) (pss_one (ps_ret (pe_tup (pa_cons (pv 2) (pa_cons (pe_tup pa_nil) pa_nil))))) pss_nil)
      (pss_cons (ps_if (pt_cmpR op_eq (pe_ix ix_tup (pv 0) pe_int (fun _ _ => rfl)) pe_str (nomark _)) (pss_one (ps_ret (pe_tup (pa_cons (pe_ix ix_tup (pv 0) pe_int (fun _ _ => rfl)) (pa_cons (pe_tup pa_nil) pa_nil))))) pss_nil)
      (pss_cons (ps_asg (pe_meth (pv 1) T.cl mH GH hr bH .nil pass0 (pa_cons (pe_ix ix_tup (pv 0) pe_int (fun _ _ => rfl)) pa_nil)) (pg_tup rfl (pgs_cons (pg_name (i := 3) sc_put.nd rfl (.inl rfl)) (pgs_cons (pg_name (i := 4) sc_put.nd rfl (.inl rfl)) pgs_nil))))
      (pss_cons (ps_if (pt_cmpR op_eq (pe_ix ix_tup (pv 0) pe_int (fun _ _ => rfl)) pe_str (nomark _)) (pss_one (ps_ret (pe_tup (pa_cons (pv 3) (pa_cons (pv 4) pa_nil))))) pss_nil)
      (pss_cons (ps_if (pt_cmpR op_eq (pe_ix ix_tup (pv 0) pe_int (fun _ _ => rfl)) pe_str (nomark _)) (pss_one (ps_ret (pe_tup (pa_cons (pe_op op_mod (pv 3) pe_int) (pa_cons (pe_tup pa_nil) pa_nil))))) pss_nil)
      (pss_cons (ps_asg (pe_meth (pv 1) T.cl mH GH hr bH .nil pass0 (pa_cons (pe_ix ix_tup (pv 0) pe_int (fun _ _ => rfl)) pa_nil)) (pg_tup rfl (pgs_cons (pg_name (i := 5) sc_put.nd rfl (.inl rfl)) (pgs_cons (pg_name (i := 6) sc_put.nd rfl (.inl rfl)) pgs_nil))))
      (pss_one (ps_ret (pe_tup (pa_cons (pe_op op_mod (pe_op op_add (pv 3) (pe_op op_mul pe_int (pv 5))) (pe_glob (v := .int 10007) rfl g1 ⟨_, rfl⟩)) (pa_cons (pe_callTy call_tuple_of (by rfl) m_tuple (by decide +kernel) (pa_cons (pe_callB (call_sortSetS rfl) (by rfl) m_sorted (by decide +kernel) (pa_cons (pe_callTy (call_setT rfl) (by rfl) m_set (by decide +kernel) (pa_cons (pe_op op_catA (pv 4) (pv 6)) pa_nil)) pa_nil)) pa_nil)) pa_nil)))))))))))), ?_⟩
    obtain ⟨a, r, rfl, hs, hr1⟩ := word_in hw
    obtain ⟨dx, fs, hf1, hf2, hf3, hf4, hf5⟩ := id hF
    have two : ∀ (x : Int) (H1 : Hp), Ex [] H H1 → ∀ Z, H1 Z = none → ∀ T2, (upd H1 Z (.tup [])) T2 = none → Tp K (upd (upd H1 Z (.tup [])) T2 (.tup [.int x, .ref Z])) (.ref T2) (wvD (x, [])) := fun x H1 x1 Z nZ T2 nT =>
      wv_mk (ws := []) (.of upd_same) (.of ((Ex.new nT (xs := [])).tup upd_same))
    cases W with
    | tell b => cases hp
    | wipe b => cases hp
    | clear b => cases hp
    | drop b => cases hp
    | risk b => cases hp
    | fault b => cases hp
    | back => cases hp
    | call b => cases hp
    | take b s =>
      obtain ⟨r2, rfl, hr2⟩ := one_s hr1
      obtain ⟨r3, rfl, hr3⟩ := one_s hr2
      refine ⟨.ref a, rfl, a, _, 0, _, rfl, rfl, hs, at0, rfl, _, rfl, sY ?_⟩
      refine ⟨.int ans, rfl, .ref a, rfl, a, _, 2, _, rfl, rfl, hs, at2, l1, fun Z nZ => ⟨l2, fun T2 nT => ?_⟩⟩
      have x1 : Ex [] H (upd H Z (.tup [.str s])) := .new nZ
      have x2 : Ex [] (upd H Z (.tup [.str s])) (upd (upd H Z (.tup [.str s])) T2 (.tup [.int ans, .ref Z])) := .new nT
      exact q _ _ (x1.trans x2) (wv_mk (ws := [s]) (.of upd_same) (.of (x2.tup upd_same)))
    | ask b =>
      refine ⟨.ref a, rfl, a, _, 0, _, rfl, rfl, hs, at0, rfl, _, rfl, sN (show ¬ Str.ofString "ask" = Str.ofString "take" by decide +kernel) ?_⟩
      refine ⟨.ref a, rfl, a, _, 0, _, rfl, rfl, hs, at0, rfl, _, rfl, sY ?_⟩
      refine ⟨.int ans, rfl, l0, fun Z nZ => ⟨l2, fun T2 nT => ?_⟩⟩
      exact q _ _ ((Ex.new nZ).trans (.new nT)) (two ans H .refl Z nZ T2 nT)
    | number b n =>
      obtain ⟨r2, rfl, hr2⟩ := one_s hr1
      obtain ⟨r3, rfl, hr3⟩ := one_i hr2
      refine ⟨.ref a, rfl, a, _, 0, _, rfl, rfl, hs, at0, rfl, _, rfl, sN (show ¬ Str.ofString "number" = Str.ofString "take" by decide +kernel) ?_⟩
      refine ⟨.ref a, rfl, a, _, 0, _, rfl, rfl, hs, at0, rfl, _, rfl, sN (show ¬ Str.ofString "number" = Str.ofString "ask" by decide +kernel) ?_⟩
      refine ⟨.ref a, rfl, a, _, 0, _, rfl, rfl, hs, at0, rfl, _, rfl, sY ?_⟩
      refine ⟨.ref a, rfl, a, _, 2, _, rfl, rfl, hs, at2, l0, fun Z nZ => ⟨l2, fun T2 nT => ?_⟩⟩
      exact q _ _ ((Ex.new nZ).trans (.new nT)) (two n H .refl Z nZ T2 nT)
    | copy b c =>
      obtain ⟨r2, rfl, hr2⟩ := one_s hr1
      obtain ⟨r3, rfl, hr3⟩ := one_s hr2
      refine ⟨.ref a, rfl, a, _, 0, _, rfl, rfl, hs, at0, rfl, _, rfl, sN (show ¬ Str.ofString "copy" = Str.ofString "take" by decide +kernel) ?_⟩
      refine ⟨.ref a, rfl, a, _, 0, _, rfl, rfl, hs, at0, rfl, _, rfl, sN (show ¬ Str.ofString "copy" = Str.ofString "ask" by decide +kernel) ?_⟩
      refine ⟨.ref a, rfl, a, _, 0, _, rfl, rfl, hs, at0, rfl, _, rfl, sN (show ¬ Str.ofString "copy" = Str.ofString "number" by decide +kernel) ?_⟩
      refine ⟨.ref fr, rfl, fr, dx, fs, rfl, hf1, hf4, .ref a, rfl, a, _, 2, _, rfl, rfl, hs, at2, fr, _, pl, .str c, c, kd, Ws, n, f, rfl, hF, hD, rfl, fun z hz => ?_⟩
      obtain ⟨z1, z2, rfl, hz1, hz2⟩ := wv_inv hz
      refine ⟨z1, _, rfl, hz1, rfl, _, _, rfl, _, _, rfl, rfl, ?_⟩
      refine ⟨.ref a, rfl, a, _, 0, _, rfl, rfl, hs, at0, rfl, _, rfl, sY ?_⟩
      refine ⟨.int (f c).1, rfl, .ref z2, rfl, l2, fun T2 nT => ?_⟩
      have x2 : Ex [] H (upd H T2 (.tup [.int (f c).1, .ref z2])) := .new nT
      exact q _ _ x2 (wv_mk (ws := (f c).2) (.of upd_same) (x2.seqT hz2))
    | opn b c =>
      obtain ⟨r2, rfl, hr2⟩ := one_s hr1
      obtain ⟨r3, rfl, hr3⟩ := one_s hr2
      refine ⟨.ref a, rfl, a, _, 0, _, rfl, rfl, hs, at0, rfl, _, rfl, sN (show ¬ Str.ofString "open" = Str.ofString "take" by decide +kernel) ?_⟩
      refine ⟨.ref a, rfl, a, _, 0, _, rfl, rfl, hs, at0, rfl, _, rfl, sN (show ¬ Str.ofString "open" = Str.ofString "ask" by decide +kernel) ?_⟩
      refine ⟨.ref a, rfl, a, _, 0, _, rfl, rfl, hs, at0, rfl, _, rfl, sN (show ¬ Str.ofString "open" = Str.ofString "number" by decide +kernel) ?_⟩
      refine ⟨.ref fr, rfl, fr, dx, fs, rfl, hf1, hf4, .ref a, rfl, a, _, 2, _, rfl, rfl, hs, at2, fr, _, pl, .str c, c, kd, Ws, n, f, rfl, hF, hD, rfl, fun z hz => ?_⟩
      obtain ⟨z1, z2, rfl, hz1, hz2⟩ := wv_inv hz
      refine ⟨z1, _, rfl, hz1, rfl, _, _, rfl, _, _, rfl, rfl, ?_⟩
      refine ⟨.ref a, rfl, a, _, 0, _, rfl, rfl, hs, at0, rfl, _, rfl, sN (show ¬ Str.ofString "open" = Str.ofString "copy" by decide +kernel) ?_⟩
      refine ⟨.ref a, rfl, a, _, 0, _, rfl, rfl, hs, at0, rfl, _, rfl, sY ?_⟩
      refine ⟨.int (f c).1, rfl, (f c).1, 2, rfl, rfl, (by show (0 : Int) < 2; decide), l0, fun Z nZ => ⟨l2, fun T2 nT => ?_⟩⟩
      exact q _ _ ((Ex.new nZ).trans (.new nT)) (two ((f c).1 % 2) H .refl Z nZ T2 nT)
    | mix b c d =>
      obtain ⟨r2, rfl, hr2⟩ := one_s hr1
      obtain ⟨r3, rfl, hr3⟩ := one_s hr2
      obtain ⟨r4, rfl, hr4⟩ := one_s hr3
      refine ⟨.ref a, rfl, a, _, 0, _, rfl, rfl, hs, at0, rfl, _, rfl, sN (show ¬ Str.ofString "mix" = Str.ofString "take" by decide +kernel) ?_⟩
      refine ⟨.ref a, rfl, a, _, 0, _, rfl, rfl, hs, at0, rfl, _, rfl, sN (show ¬ Str.ofString "mix" = Str.ofString "ask" by decide +kernel) ?_⟩
      refine ⟨.ref a, rfl, a, _, 0, _, rfl, rfl, hs, at0, rfl, _, rfl, sN (show ¬ Str.ofString "mix" = Str.ofString "number" by decide +kernel) ?_⟩
      refine ⟨.ref fr, rfl, fr, dx, fs, rfl, hf1, hf4, .ref a, rfl, a, _, 2, _, rfl, rfl, hs, at2, fr, _, pl, .str c, c, kd, Ws, n, f, rfl, hF, hD, rfl, fun z hz => ?_⟩
      obtain ⟨z1, z2, rfl, hz1, hz2⟩ := wv_inv hz
      refine ⟨z1, _, rfl, hz1, rfl, _, _, rfl, _, _, rfl, rfl, ?_⟩
      refine ⟨.ref a, rfl, a, _, 0, _, rfl, rfl, hs, at0, rfl, _, rfl, sN (show ¬ Str.ofString "mix" = Str.ofString "copy" by decide +kernel) ?_⟩
      refine ⟨.ref a, rfl, a, _, 0, _, rfl, rfl, hs, at0, rfl, _, rfl, sN (show ¬ Str.ofString "mix" = Str.ofString "open" by decide +kernel) ?_⟩
      refine ⟨.ref fr, rfl, fr, dx, fs, rfl, hf1, hf4, .ref a, rfl, a, _, 3, _, rfl, rfl, hs, at3, fr, _, pl, .str d, d, kd, Ws, n, f, rfl, hF, hD, rfl, fun y hy => ?_⟩
      obtain ⟨y1, y2, rfl, hy1, hy2⟩ := wv_inv hy
      refine ⟨y1, _, rfl, hy1, rfl, _, _, rfl, _, _, rfl, rfl, ?_⟩
      obtain ⟨kvs, _, _, _, _, _, _, h7⟩ := hD
      have lc := sub_len _ Ws (h7 c).1 (h7 c).2
      have ld := sub_len _ Ws (h7 d).1 (h7 d).2
      refine ⟨.int (f c).1, rfl, .int (f d).1, rfl, 2, (f d).1, rfl, rfl, .inl ⟨by decide, by decide⟩, (f c).1, _, rfl, rfl, _, 10007, rfl, rfl, (by show (0 : Int) < 10007; decide), .ref z2, rfl, .ref y2, rfl, ?_⟩
      refine tp_cat (K := K) hz2 hy2 (TpAll.strs _) (TpAll.strs _) (by rw [List.length_map, List.length_map]; omega) fun p1 H1 zs x1 hs1 ht1 => ?_
      rw [← List.map_append] at ht1
      rw [strs_inv ht1] at hs1
      refine ⟨p1, (f c).2 ++ (f d).2, rfl, hs1, by rw [List.length_append]; omega, fun p2 n2 => ?_⟩
      have x2 : Ex [] H1 (upd H1 p2 (SetS w p2 ((f c).2 ++ (f d).2))) := .new n2
      refine ⟨p2, (f c).2 ++ (f d).2, (f c).2 ++ (f d).2, rfl, upd_same, fun x hx => hx, by rw [List.length_append]; omega, fun ys p3 s1 s2 s3 n3 => ?_⟩
      have x3 : Ex [] (upd H1 p2 (SetS w p2 ((f c).2 ++ (f d).2))) (upd (upd H1 p2 (SetS w p2 ((f c).2 ++ (f d).2))) p3 (.lst (ys.map V.str))) := .new n3
      refine ⟨p3, ys.map V.str, rfl, .inl ⟨.of upd_same, fun p4 n4 => ?_⟩⟩
      have x4 : Ex [] (upd (upd H1 p2 (SetS w p2 ((f c).2 ++ (f d).2))) p3 (.lst (ys.map V.str))) (upd (upd (upd H1 p2 (SetS w p2 ((f c).2 ++ (f d).2))) p3 (.lst (ys.map V.str))) p4 (.tup (ys.map V.str))) := .new n4
      refine ⟨(by show 2 ≤ sizeLine; decide), fun T2 nT => ?_⟩
      have eu : sortU ((f c).2 ++ (f d).2) = ys := SU.eq ⟨s1, s2, s3⟩
      refine q _ _ ((((x1.trans x2).trans x3).trans x4).trans (.new nT)) ?_
      show Tp K _ _ (wvD (((f c).1 + 2 * (f d).1) % 10007, sortU ((f c).2 ++ (f d).2)))
      rw [eu]
      exact wv_mk (.of upd_same) (.of ((Ex.new nT (xs := [])).tup upd_same))
end
end K10

set_option maxHeartbeats 4000000
namespace K10
open PySem PySem.Spec PyProof.Rows L2 Kk
abbrev s_leave : Stmt := inClass (topS 28) 4
abbrev n_leave : List Str := ["self", "frame", "boxes", "box", "worths"]
theorem sc_leave : FnScope n_leave ["self", "frame", "boxes"] (defScope s_leave) := ⟨rfl, rfl, rfl, by decide +kernel, rfl, by decide +kernel, by decide +kernel⟩
/-! what is emptied -/
def emW : Wo → Bq → Bool
  | .wipe b, q => decide (q = b)
  | .clear x, q => Txt.startswith q (x ++ dotS)
  | .drop bs, q => decide (q ∈ bs)
  | _, _ => false
def emF (f : Bq → Wv) (W : Wo) : Bq → Wv := fun q => if emW W q = true then (0, []) else f q
/-- the texts of a list, rising -/
noncomputable def srtS (bs : List Str) : List Str := Classical.epsilon fun ys => ys.Perm bs ∧ ys.Pairwise leS
theorem srtS_eq {bs ys : List Str} (h : ys.Perm bs) (g : sortedS ys = true) : srtS bs = ys := by
  have e : ∃ ys : List Str, ys.Perm bs ∧ ys.Pairwise leS := ⟨ys, h, pw_sorted g⟩
  have s := Classical.epsilon_spec e
  exact perm_uniq (fun a b => leS_anti) s.2 (pw_sorted g) (s.1.trans h.symm)
def plcD (n : Nat) : PyData := .tuple [.str (Str.ofString ""), .int n]
def entD (n : Nat) (f : Bq → Wv) (q : Str) : PyData := .tuple [plcD n, .str q, .tuple ((f q).2.map .str)]
noncomputable def leftB (n : Nat) (f : Bq → Wv) (bs : List Str) : List PyData := ((srtS bs).filter fun q => decide (¬ (f q).2 = [])).map (entD n f)
theorem inV_strs (a : Str) : ∀ bs : List Str, inV (.str a) (bs.map V.str) = decide (a ∈ bs)
  | [] => by simp [inV]
  | b :: bs => by
    have ih := inV_strs a bs
    unfold inV at ih ⊢
    rw [List.map_cons, List.any_cons, ih]
    have ev : eqV (V.str b) (V.str a) = decide (b = a) := by
      show (b == a) = _
      by_cases e : b = a
      · subst e; simp
      · rw [decide_eq_false e]
        cases z : b == a with
        | false => rfl
        | true => exact absurd (eq_of_beq z) e
    rw [ev]
    by_cases e : a = b
    · subst e; simp
    · have e' : ¬ b = a := fun z => e z.symm
      simp [e, e']
theorem strs_flat (bs : List Str) : (bs.map V.str).all flatV = true := by
  rw [List.all_eq_true]
  intro x m
  obtain ⟨s, _, e⟩ := List.mem_map.mp m
  rw [← e]; rfl
section
variable {P : Program} {w : World} {K : PySem.W.Frag} {mg : Str → Option Value} {base : Heap}
def smallW : Wo → Prop
  | .clear x => x.length ≤ 1000
  | _ => True
def spEmpties (K : PySem.W.Frag) : Sp := fun vs H Q _ => ∃ (v : V) (W : Wo) (q : Bq), vs = [v, .str q] ∧ Tp K H v (wD W) ∧ smallW W ∧ Q (.bl (emW W q)) H
theorem ok_empties {f f1 : Addr} {fd d1 : FuncData} {k : Nat} (F : Fun K "empties" "empties" s_empties f fd) (C_in_record : Cl P w K mg base k "in_record" ["box", "name"] spRec f1 d1) : FnOk P w K mg base CX0 (k + 1) f fd ["word", "box"] (spEmpties K) := by
  refine F.ok sc_empties (fun vs H Q E h => ?_) (fun cdv A outer s H vs Q E hr h => ?_)
  · obtain ⟨v, W, q, rfl, _⟩ := h; rfl
  · obtain ⟨v, W, bq, rfl, hw, sm, q⟩ := h
    refine ⟨_, (pss_cons (ps_if (pt_cmpR op_eq (pe_ix ix_tup (pv 0) pe_int (fun _ _ => rfl)) pe_str (nomark _)) (pss_one (ps_ret (pe_cmpR op_eq (pv 1) (pe_ix ix_tup (pv 0) pe_int (fun _ _ => rfl)) (nomark _)))) pss_nil)
      (pss_cons (ps_if (pt_cmpR op_eq (pe_ix ix_tup (pv 0) pe_int (fun _ _ => rfl)) pe_str (nomark _)) (pss_one (ps_ret (pe_call C_in_record.g hr (by rfl) C_in_record.m C_in_record.k C_in_record.b .nil pass0 (pa_cons (pv 1) (pa_cons (pe_ix ix_tup (pv 0) pe_int (fun _ _ => rfl)) pa_nil))))) pss_nil)
      (pss_one (ps_ret (pe_and (pe_cmpR op_eq (pe_ix ix_tup (pv 0) pe_int (fun _ _ => rfl)) pe_str (nomark _)) (pe_one (pe_cmpR op_in_seq (pv 1) (pe_ix ix_tup (pv 0) pe_int (fun _ _ => rfl)) rfl))))))), ?_⟩
    obtain ⟨a, r, rfl, hs, hr1⟩ := word_in hw
    have key : (¬ kW W = Str.ofString "wipe" ∧ ¬ kW W = Str.ofString "clear" ∧ ¬ kW W = Str.ofString "drop" ∧ emW W bq = false) ∨ (∃ b, W = .wipe b) ∨ (∃ x, W = .clear x) ∨ ∃ bs, W = .drop bs := by
      cases W with
      | wipe b => exact .inr (.inl ⟨b, rfl⟩)
      | clear x => exact .inr (.inr (.inl ⟨x, rfl⟩))
      | drop bs => exact .inr (.inr (.inr ⟨bs, rfl⟩))
      | take b s => exact .inl ⟨(show ¬ Str.ofString "take" = Str.ofString "wipe" by decide +kernel), (show ¬ Str.ofString "take" = Str.ofString "clear" by decide +kernel), (show ¬ Str.ofString "take" = Str.ofString "drop" by decide +kernel), rfl⟩
      | ask b => exact .inl ⟨(show ¬ Str.ofString "ask" = Str.ofString "wipe" by decide +kernel), (show ¬ Str.ofString "ask" = Str.ofString "clear" by decide +kernel), (show ¬ Str.ofString "ask" = Str.ofString "drop" by decide +kernel), rfl⟩
      | number b n => exact .inl ⟨(show ¬ Str.ofString "number" = Str.ofString "wipe" by decide +kernel), (show ¬ Str.ofString "number" = Str.ofString "clear" by decide +kernel), (show ¬ Str.ofString "number" = Str.ofString "drop" by decide +kernel), rfl⟩
      | copy b c => exact .inl ⟨(show ¬ Str.ofString "copy" = Str.ofString "wipe" by decide +kernel), (show ¬ Str.ofString "copy" = Str.ofString "clear" by decide +kernel), (show ¬ Str.ofString "copy" = Str.ofString "drop" by decide +kernel), rfl⟩
      | mix b c d => exact .inl ⟨(show ¬ Str.ofString "mix" = Str.ofString "wipe" by decide +kernel), (show ¬ Str.ofString "mix" = Str.ofString "clear" by decide +kernel), (show ¬ Str.ofString "mix" = Str.ofString "drop" by decide +kernel), rfl⟩
      | opn b c => exact .inl ⟨(show ¬ Str.ofString "open" = Str.ofString "wipe" by decide +kernel), (show ¬ Str.ofString "open" = Str.ofString "clear" by decide +kernel), (show ¬ Str.ofString "open" = Str.ofString "drop" by decide +kernel), rfl⟩
      | tell b => exact .inl ⟨(show ¬ Str.ofString "tell" = Str.ofString "wipe" by decide +kernel), (show ¬ Str.ofString "tell" = Str.ofString "clear" by decide +kernel), (show ¬ Str.ofString "tell" = Str.ofString "drop" by decide +kernel), rfl⟩
      | risk x => exact .inl ⟨(show ¬ Str.ofString "risk" = Str.ofString "wipe" by decide +kernel), (show ¬ Str.ofString "risk" = Str.ofString "clear" by decide +kernel), (show ¬ Str.ofString "risk" = Str.ofString "drop" by decide +kernel), rfl⟩
      | fault x => exact .inl ⟨(show ¬ Str.ofString "fault" = Str.ofString "wipe" by decide +kernel), (show ¬ Str.ofString "fault" = Str.ofString "clear" by decide +kernel), (show ¬ Str.ofString "fault" = Str.ofString "drop" by decide +kernel), rfl⟩
      | back => exact .inl ⟨(show ¬ Str.ofString "back" = Str.ofString "wipe" by decide +kernel), (show ¬ Str.ofString "back" = Str.ofString "clear" by decide +kernel), (show ¬ Str.ofString "back" = Str.ofString "drop" by decide +kernel), rfl⟩
      | call x => exact .inl ⟨(show ¬ Str.ofString "call" = Str.ofString "wipe" by decide +kernel), (show ¬ Str.ofString "call" = Str.ofString "clear" by decide +kernel), (show ¬ Str.ofString "call" = Str.ofString "drop" by decide +kernel), rfl⟩
    rcases key with ⟨n1, n2, n3, e⟩ | ⟨b, rfl⟩ | ⟨x, rfl⟩ | ⟨bs, rfl⟩
    · rw [e] at q
      exact ⟨.ref a, rfl, a, _, 0, _, rfl, rfl, hs, at0, rfl, _, rfl, sN n1 ⟨.ref a, rfl, a, _, 0, _, rfl, rfl, hs, at0, rfl, _, rfl, sN n2 ⟨.ref a, rfl, a, _, 0, _, rfl, rfl, hs, at0, rfl, _, rfl, sN n3 q⟩⟩⟩
    · obtain ⟨r2, rfl, hr2⟩ := one_s hr1
      refine ⟨.ref a, rfl, a, _, 0, _, rfl, rfl, hs, at0, rfl, _, rfl, sY ⟨.str bq, rfl, .ref a, rfl, a, _, 1, _, rfl, rfl, hs, at1, rfl, ?_⟩⟩
      have e : decide (V.str bq = V.str b) = emW (.wipe b) bq := by
        show _ = decide (bq = b)
        rw [decide_eq_decide]
        exact ⟨fun z => V.str.inj z, fun z => by rw [z]⟩
      rw [e]; exact q
    · obtain ⟨r2, rfl, hr2⟩ := one_s hr1
      exact ⟨.ref a, rfl, a, _, 0, _, rfl, rfl, hs, at0, rfl, _, rfl, sN (show ¬ Str.ofString "clear" = Str.ofString "wipe" by decide +kernel) ⟨.ref a, rfl, a, _, 0, _, rfl, rfl, hs, at0, rfl, _, rfl, sY ⟨.str bq, rfl, .ref a, rfl, a, _, 1, _, rfl, rfl, hs, at1, bq, x, rfl, sm, q⟩⟩⟩
    · cases hr1 with
      | cons h1 h2 =>
        cases h1 with
        | tup hs2 ha2 =>
          rename_i c ys
          rw [strs_inv ha2] at hs2
          refine ⟨.ref a, rfl, a, _, 0, _, rfl, rfl, hs, at0, rfl, _, rfl, sN (show ¬ Str.ofString "drop" = Str.ofString "wipe" by decide +kernel) ⟨.ref a, rfl, a, _, 0, _, rfl, rfl, hs, at0, rfl, _, rfl, sN (show ¬ Str.ofString "drop" = Str.ofString "clear" by decide +kernel) ⟨.ref a, rfl, a, _, 0, _, rfl, rfl, hs, at0, rfl, _, rfl, sY ?_⟩⟩⟩
          refine ⟨.str bq, rfl, .ref a, rfl, a, _, 1, _, rfl, rfl, hs, at1, c, _, rfl, .inr hs2, rfl, strs_flat bs, ?_⟩
          show Q (.bl (inV (.str bq) (bs.map V.str))) H
          rw [inV_strs]; exact q
/-- what is left by these boxes -/
def spLeave (K : PySem.W.Frag) (CF CR : Addr) : Sp := fun vs H Q _ => ∃ (nw fr b lf bx : Addr) (pl : V) (bs kd Ws : List Str) (n i : Nat) (f : Bq → Wv) (ls : List V) (ds : List PyData), vs = [.ref nw, .ref fr, .ref bx] ∧
  (∃ dx fs, H nw = some (.ins CR dx fs) ∧ fs.lookup ("left" : Str) = some (.ref lf)) ∧ H lf = some (.lst ls) ∧ TpAll K H ls ds ∧ ds.length ≤ 100000 ∧ (SqT K H bx (bs.map V.str) ∨ SqL K H bx (bs.map V.str)) ∧ bs.length < 64 ∧ FrH CF H fr b pl ∧ Tp K H pl (plcD i) ∧ Hd K H b kd Ws n f ∧
  ∀ H' ls', Ex [lf] H H' → H' lf = some (.lst ls') → TpAll K H' ls' (ds ++ leftB i f bs) → Q .non H'
theorem ok_leave {f CF CR fH : Addr} {fd fdH : FuncData} {k : Nat} (F : Fun K "leave" "Run.leave" s_leave f fd) (T : TF K mg CF) (GH : FnOk P w K mg base CX0 k fH fdH ["self", "box"] (spHolds K CF)) (mH : Meth K CF "holds" fH) (bH : Binds K fdH ["self", "box"] [])
    (clR : Cls K CR) (nL : NoAttr K CR "left") (m_sorted : mg "sorted" = none) (m_len : mg "len" = none) : FnOk P w K mg base CX0 (k + 1) f fd ["self", "frame", "boxes"] (spLeave K CF CR) := by
  refine F.ok sc_leave (fun vs H Q E h => ?_) (fun cdv A outer s H vs Q E hr h => ?_)
  · obtain ⟨nw, fr, b, lf, bx, pl, bs, kd, Ws, n, i, f, ls, ds, rfl, _⟩ := h; rfl
  · obtain ⟨nw, fr, b, lf, bx, pl, bs, kd, Ws, n, i0, f, ls, ds, rfl, ⟨dR, fR, hR, hRl⟩, hlf, tls, lds, hbx, lbs, hF, tpl, hD, q⟩ := h
    refine ⟨_, (pss_one (ps_for PassesOwn.never rfl (pi_list (pe_callB (cr_sortTS (K := K) rfl) (by rfl) m_sorted (by decide +kernel) (pa_cons (pv 2) pa_nil))) (pg_name (i := 3) sc_leave.nd rfl (.inl rfl))
      (pss_cons (ps_set (i := 4) sc_leave.nd rfl (.inl rfl) (pe_ix ix_tup (pe_meth (pv 1) T.cl mH GH hr bH .nil pass0 (pa_cons (pv 3) pa_nil)) pe_int (fun _ _ => rfl)))
      (pss_one (ps_if (pt_cmpR op_gt (pe_callB call_len_seq (by rfl) m_len PySem.boot_len (pa_cons (pv 4) pa_nil)) pe_int (nomark _)) (pss_one (ps_expr (pe_bm PySem.F.plainAttrs_list PySem.F.slot_list_append PySem.F.type_list_append mt_append (pe_fld (pv 0) rfl) (pa_cons (pe_tup (pa_cons (pe_fld (pv 1) rfl) (pa_cons (pv 3) (pa_cons (pv 4) pa_nil)))) pa_nil)))) pss_nil))))), ?_⟩
    obtain ⟨dx, fs, hf1, hf2, hf3, hf4, hf5⟩ := id hF
    obtain ⟨kvs, k1, _⟩ := id hD
    have lfb : b ≠ lf := ne_of k1 hlf (by intro z; cases z)
    have lff : fr ≠ lf := ne_of hf1 hlf (by intro z; cases z)
    have lfn : nw ≠ lf := ne_of hR hlf (by intro z; cases z)
    refine ⟨.ref bx, rfl, bx, bs, rfl, hbx, lbs, fun ys L pm srt nL2 => ?_⟩
    have xL : Ex [] H (upd H L (.lst (ys.map V.str))) := .new nL2
    have Llf : L ≠ lf := fun z => by rw [z, hlf] at nL2; cases nL2
    have es := srtS_eq pm srt
    have ly : ys.length < 64 := by rw [pm.length_eq]; exact lbs
    refine ⟨L, rfl, ⟨_, .of upd_same⟩, for_list (a := L) (xs := ys.map V.str) (fun i σ H2 => ∃ z3 z4, σ = [some (.ref nw), some (.ref fr), some (.ref bx), z3, z4] ∧ Ex [lf] (upd H L (.lst (ys.map V.str))) H2 ∧ H2 L = some (.lst (ys.map V.str)) ∧ ∃ ls2, H2 lf = some (.lst ls2) ∧
      TpAll K H2 ls2 (ds ++ ((ys.take i).filter fun q => decide (¬ (f q).2 = [])).map (entD i0 f))) ?_ ?_ ?_ ?_⟩
    · refine ⟨_, _, rfl, .refl, upd_same, ls, xL.lst hlf, ?_⟩
      rw [List.take_zero, List.filter_nil, List.map_nil, List.append_nil]
      exact tls.ex xL
    · rintro i σ H2 _ ⟨z3, z4, _, _, hL, _⟩
      exact .of hL
    · rintro i x σ H2 hx ⟨z3, z4, rfl, x2, hL2, ls2, hl2, tl2⟩
      rw [List.getElem?_map] at hx
      cases hyi : ys[i]? with
      | none => rw [hyi] at hx; cases hx
      | some y =>
        rw [hyi] at hx
        cases hx
        have il : i < ys.length := (List.getElem?_eq_some_iff.mp hyi).1
        have x02 : Ex [lf] H H2 := (xL.mono (by simp)).trans x2
        have hF2 := hF.ex x02 (by simpa using lff)
        have hD2 := hD.ex x02 (by simpa using lfb)
        obtain ⟨dx2, fs2, g1, g2, g3, g4, g5⟩ := id hF2
        refine ⟨.ref fr, rfl, fr, dx2, fs2, rfl, g1, g4, .str y, rfl, fr, b, pl, .str y, y, kd, Ws, n, f, rfl, hF2, hD2, rfl, fun z hz => ?_⟩
        obtain ⟨z1, z2, rfl, hz1, hz2⟩ := wv_inv hz
        refine ⟨z1, _, 1, _, rfl, rfl, hz1, at1, ?_⟩
        refine ⟨.ref z2, rfl, z2, _, rfl, .inr hz2, _, 0, rfl, rfl, _, rfl, ite2 (fun e => ?_) fun e => ?_⟩
        · have ne : ¬ (f y).2 = [] := fun z => by
            rw [z] at e
            exact absurd (of_decide_eq_true e) (by decide)
          refine ⟨.ref nw, rfl, nw, CR, dR, fR, .ref lf, rfl, x02.a nw _ (by simpa using lfn) hR (fun _ z => by cases z), clR, nL, hRl, .inl ⟨rfl, _, .of hl2⟩, .ref fr, rfl, fr, CF, dx2, fs2, pl, rfl, g1, T.cl, T.nP, g3, .str y, rfl, .ref z2, rfl, (by show 3 ≤ sizeLine; decide), fun t nt => ?_⟩
          have xt : Ex [] H2 (upd H2 t (.tup [pl, .str y, .ref z2])) := .new nt
          have ltl := tl2.len
          rw [List.length_append, List.length_map] at ltl
          have lfil : ((ys.take i).filter fun q => decide (¬ (f q).2 = [])).length ≤ i := Nat.le_trans (List.length_filter_le _ _) (by rw [List.length_take]; exact Nat.min_le_left _ _)
          refine ⟨lf, _, _, rfl, rfl, xt.lst hl2, by rw [sizeLine_eq]; omega, ?_⟩
          have x3 : Ex [lf] (upd H2 t (.tup [pl, .str y, .ref z2])) (upd (upd H2 t (.tup [pl, .str y, .ref z2])) lf (.lst (ls2 ++ [.ref t]))) := .put (xt.lst hl2) nt_lst (by simp)
          have x23 := (xt.mono (ys := [lf]) (by simp)).trans x3
          refine ⟨_, _, rfl, x2.trans x23, x23.lst hL2 (by simpa using Llf), _, upd_same, ?_⟩
          rw [List.take_add_one, hyi]
          show TpAll K _ _ (ds ++ ((ys.take i ++ [y]).filter fun q => decide (¬ (f q).2 = [])).map (entD i0 f))
          rw [List.filter_append, List.filter_cons_of_pos (by rw [decide_eq_true ne]), List.filter_nil, List.map_append, ← List.append_assoc]
          refine (tl2.ex x23).app (.cons ?_ .nil)
          exact .tup (.of (x3.tup upd_same)) (.cons ((tpl.ex x02).ex x23) (.cons (.str _) (.cons (.tup (x23.seqT hz2) (TpAll.strs _)) .nil)))
        · have ne : (f y).2 = [] := by
            cases hl : (f y).2 with
            | nil => rfl
            | cons a l =>
              rw [hl] at e
              exact absurd (decide_eq_true (by simp)) e
          refine ⟨_, _, rfl, x2, hL2, ls2, hl2, ?_⟩
          rw [List.take_add_one, hyi]
          show TpAll K _ _ (ds ++ ((ys.take i ++ [y]).filter fun q => decide (¬ (f q).2 = [])).map (entD i0 f))
          rw [List.filter_append, List.filter_cons_of_neg (by simp [ne]), List.filter_nil, List.append_nil]
          exact tl2
    · rintro σ H2 ⟨z3, z4, rfl, x2, hL2, ls2, hl2, tl2⟩
      rw [List.length_map, List.take_length] at tl2
      refine q H2 ls2 ((xL.mono (by simp)).trans x2) hl2 ?_
      unfold leftB
      rw [es]; exact tl2
end
end K10

set_option maxHeartbeats 4000000
namespace K10
open PySem PySem.Spec PyProof.Rows L2 Kk
abbrev s_do : Stmt := topS 30
abbrev n_do : List Str := ["now", "frame", "word", "answer", "box"]
theorem sc_do : FnScope n_do ["now", "frame", "word", "answer"] (defScope s_do) := ⟨rfl, rfl, rfl, by decide +kernel, rfl, by decide +kernel, by decide +kernel⟩
noncomputable def stF (f : Bq → Wv) (ans : Int) (W : Wo) : Bq → Wv := if isPut W = true then setF f (boxW W) (valW f ans W) else emF f W
def isTell : Wo → Bool
  | .tell _ => true
  | _ => false
def isDrop : Wo → Bool
  | .drop _ => true
  | _ => false
def tellW (f : Bq → Wv) : Wo → List Int
  | .tell b => [(f b).1]
  | _ => []
noncomputable def leftW (n : Nat) (f : Bq → Wv) : Wo → List PyData
  | .drop bs => leftB n f bs
  | _ => []
/-- the boxes of a word, its worths -/
def okW (kd Ws : List Str) : Wo → Prop
  | .take b s => b ∈ kd ∧ s ∈ Ws
  | .ask b => b ∈ kd
  | .number b _ => b ∈ kd
  | .copy b _ => b ∈ kd
  | .mix b _ _ => b ∈ kd
  | .opn b _ => b ∈ kd
  | .clear x => x.length ≤ 1000
  | .drop bs => bs.length < 64
  | _ => True
theorem okW.small {kd Ws : List Str} {W : Wo} (h : okW kd Ws W) : smallW W := by cases W <;> first | exact h | exact True.intro
theorem okW.box {kd Ws : List Str} {W : Wo} (h : okW kd Ws W) (p : isPut W = true) : boxW W ∈ kd := by cases W <;> first | exact h | exact h.1 | cases p
theorem SU.ok {ws : List Str} {Ws : List Str} (h : ∀ s ∈ ws, s ∈ Ws) (ex : ∃ ys, SU ws ys) : (sortU ws).Nodup ∧ ∀ s ∈ sortU ws, s ∈ Ws := by
  obtain ⟨ys, hy⟩ := ex
  rw [SU.eq hy]
  exact ⟨hy.2.1, fun s m => h s ((hy.2.2 s).mp m)⟩
def putL : List Str := [Str.ofString "take", Str.ofString "ask", Str.ofString "number", Str.ofString "copy", Str.ofString "mix", Str.ofString "open"]
theorem kind_of (W : Wo) : decide (kW W ∈ putL) = isPut W ∧ decide (kW W = Str.ofString "tell") = isTell W ∧ decide (kW W = Str.ofString "drop") = isDrop W := by
  cases W with
  | take b s => exact (show decide (Str.ofString "take" ∈ putL) = true ∧ decide (Str.ofString "take" = Str.ofString "tell") = false ∧ decide (Str.ofString "take" = Str.ofString "drop") = false by decide +kernel)
  | ask b => exact (show decide (Str.ofString "ask" ∈ putL) = true ∧ decide (Str.ofString "ask" = Str.ofString "tell") = false ∧ decide (Str.ofString "ask" = Str.ofString "drop") = false by decide +kernel)
  | number b n => exact (show decide (Str.ofString "number" ∈ putL) = true ∧ decide (Str.ofString "number" = Str.ofString "tell") = false ∧ decide (Str.ofString "number" = Str.ofString "drop") = false by decide +kernel)
  | copy b c => exact (show decide (Str.ofString "copy" ∈ putL) = true ∧ decide (Str.ofString "copy" = Str.ofString "tell") = false ∧ decide (Str.ofString "copy" = Str.ofString "drop") = false by decide +kernel)
  | mix b c d => exact (show decide (Str.ofString "mix" ∈ putL) = true ∧ decide (Str.ofString "mix" = Str.ofString "tell") = false ∧ decide (Str.ofString "mix" = Str.ofString "drop") = false by decide +kernel)
  | opn b c => exact (show decide (Str.ofString "open" ∈ putL) = true ∧ decide (Str.ofString "open" = Str.ofString "tell") = false ∧ decide (Str.ofString "open" = Str.ofString "drop") = false by decide +kernel)
  | tell b => exact (show decide (Str.ofString "tell" ∈ putL) = false ∧ decide (Str.ofString "tell" = Str.ofString "tell") = true ∧ decide (Str.ofString "tell" = Str.ofString "drop") = false by decide +kernel)
  | wipe b => exact (show decide (Str.ofString "wipe" ∈ putL) = false ∧ decide (Str.ofString "wipe" = Str.ofString "tell") = false ∧ decide (Str.ofString "wipe" = Str.ofString "drop") = false by decide +kernel)
  | clear x => exact (show decide (Str.ofString "clear" ∈ putL) = false ∧ decide (Str.ofString "clear" = Str.ofString "tell") = false ∧ decide (Str.ofString "clear" = Str.ofString "drop") = false by decide +kernel)
  | drop bs => exact (show decide (Str.ofString "drop" ∈ putL) = false ∧ decide (Str.ofString "drop" = Str.ofString "tell") = false ∧ decide (Str.ofString "drop" = Str.ofString "drop") = true by decide +kernel)
  | risk x => exact (show decide (Str.ofString "risk" ∈ putL) = false ∧ decide (Str.ofString "risk" = Str.ofString "tell") = false ∧ decide (Str.ofString "risk" = Str.ofString "drop") = false by decide +kernel)
  | fault x => exact (show decide (Str.ofString "fault" ∈ putL) = false ∧ decide (Str.ofString "fault" = Str.ofString "tell") = false ∧ decide (Str.ofString "fault" = Str.ofString "drop") = false by decide +kernel)
  | back => exact (show decide (Str.ofString "back" ∈ putL) = false ∧ decide (Str.ofString "back" = Str.ofString "tell") = false ∧ decide (Str.ofString "back" = Str.ofString "drop") = false by decide +kernel)
  | call x => exact (show decide (Str.ofString "call" ∈ putL) = false ∧ decide (Str.ofString "call" = Str.ofString "tell") = false ∧ decide (Str.ofString "call" = Str.ofString "drop") = false by decide +kernel)
theorem dec_str (a b : Str) : decide (V.str a = V.str b) = decide (a = b) := by
  rw [decide_eq_decide]
  exact ⟨fun z => V.str.inj z, fun z => by rw [z]⟩
def keysOf (kvs : List (Key × V)) : List Key := kvs.map (·.1)
open Classical in
noncomputable def wipeI (f : Bq → Wv) (W : Wo) (kl : List Key) : Bq → Wv := fun r => if emW W r = true ∧ qK r ∈ kl then (0, []) else f r
theorem putK_len {κ : Type} [DecidableEq κ] {kvs : List (κ × V)} {k : κ} {v : V} (h : k ∈ kvs.map (·.1)) : (putK kvs k v).length = kvs.length := by
  have := congrArg List.length (putK_keys kvs k v)
  rw [if_pos h, List.length_map, List.length_map] at this
  exact this
theorem keys_str {kvs : List (Key × V)} {kd : List Str} (h : ∀ kv ∈ kvs, ∃ q : Bq, kv.1 = qK q ∧ q ∈ kd) : ∃ bqs : List Bq, kvs.map (·.1) = bqs.map qK ∧ (kvs.map fun kv => kV kv.1) = bqs.map V.str ∧ ∀ q ∈ bqs, q ∈ kd := by
  induction kvs with
  | nil => exact ⟨[], rfl, rfl, fun q m => by cases m⟩
  | cons kv kvs ih =>
    obtain ⟨bqs, e1, e2, e3⟩ := ih fun x m => h x (List.mem_cons_of_mem _ m)
    obtain ⟨q, e4, e5⟩ := h kv List.mem_cons_self
    refine ⟨q :: bqs, by rw [List.map_cons, List.map_cons, e4, e1], by rw [List.map_cons, List.map_cons, e4, e2]; rfl, fun r m => ?_⟩
    rcases List.mem_cons.mp m with z | z
    · rw [z]; exact e5
    · exact e3 r z
section
variable {P : Program} {w : World} {K : PySem.W.Frag} {mg : Str → Option Value} {base : Heap}
/-- the last of it: what is emptied -/
def tLoop (K : PySem.W.Frag) (CF : Addr) : TS := fun D σ H => ∃ (nw : V) (fr b : Addr) (pl wv ans : V) (z4 : Option V) (W : Wo) (kd Ws : List Str) (n : Nat) (f : Bq → Wv), σ = [some nw, some (.ref fr), some wv, some ans, z4] ∧ Tp K H wv (wD W) ∧ smallW W ∧ FrH CF H fr b pl ∧ Hd K H b kd Ws n f ∧ n ≤ 1000 ∧ fr ≠ b ∧
  ∀ H' z4', Ex [b] H H' → Hd K H' b kd Ws n (emF f W) → D.nx [some nw, some (.ref fr), some wv, some ans, z4'] H'
def spDo (K : PySem.W.Frag) (CF CR : Addr) : Sp := fun vs H Q _ => ∃ (nw fr b tl lf : Addr) (pl wv : V) (ans : Int) (W : Wo) (kd Ws : List Str) (n i : Nat) (f : Bq → Wv) (told : List Int) (ls : List V) (ds : List PyData), vs = [.ref nw, .ref fr, wv, .int ans] ∧
  (∃ dx fs, H nw = some (.ins CR dx fs) ∧ fs.lookup ("told" : Str) = some (.ref tl) ∧ fs.lookup ("left" : Str) = some (.ref lf) ∧ fs.lookup ("leave" : Str) = none) ∧ H tl = some (.lst (told.map V.int)) ∧ told.length ≤ 1000 ∧ H lf = some (.lst ls) ∧ TpAll K H ls ds ∧ ds.length ≤ 100000 ∧ tl ≠ lf ∧
  Tp K H wv (wD W) ∧ okW kd Ws W ∧ FrH CF H fr b pl ∧ Tp K H pl (plcD i) ∧ Hd K H b kd Ws n f ∧ n ≤ 900 ∧ Ws.length ≤ 20 ∧
  ∀ H' ls', Ex [b, tl, lf] H H' → Hd K H' b kd Ws (n + 1) (stF f ans W) → H' tl = some (.lst ((told ++ tellW f W).map V.int)) → H' lf = some (.lst ls') → TpAll K H' ls' (ds ++ leftW i f W) → Q .non H'
theorem ok_do {f CF CR fH fL f1 f2 nA eA pA : Addr} {fd fdH fdL d1 d2 : FuncData} {k : Nat} (F : Fun K "do_boxes" "do_boxes" s_do f fd) (T : TF K mg CF) (N : Nth K mg nA eA) (GH : FnOk P w K mg base CX0 k fH fdH ["self", "box"] (spHolds K CF)) (mH : Meth K CF "holds" fH) (bH : Binds K fdH ["self", "box"] [])
    (GL : FnOk P w K mg base CX0 k fL fdL ["self", "frame", "boxes"] (spLeave K CF CR)) (mL : Meth K CR "leave" fL) (bL : Binds K fdL ["self", "frame", "boxes"] [])
    (C_put : Cl P w K mg base k "put_by" ["word", "frame", "answer"] (spPut K CF) f1 d1) (C_em : Cl P w K mg base k "empties" ["word", "box"] (spEmpties K) f2 d2) (clR : Cls K CR) (nT : NoAttr K CR "told")
    (g_P : mg "PUTTING" = some (.ref pA)) (tP : ∀ H, SqT K H pA (putL.map V.str)) (m_list : mg "list" = none) :
    FnOk P w K mg base CX0 (k + 1) f fd ["now", "frame", "word", "answer"] (spDo K CF CR) := by
  refine F.ok sc_do (fun vs H Q E h => ?_) (fun cdv A outer s H vs Q E hr h => ?_)
  · obtain ⟨nw, fr, b, tl, lf, pl, wv, ans, W, kd, Ws, n, i, f, told, ls, ds, rfl, _⟩ := h; rfl
  · obtain ⟨nw, fr, b, tl, lf, pl, wv, ans, W, kd, Ws, n, i, f, told, ls, ds, rfl, ⟨dR, fR, hR, hRt, hRl, hRm⟩, htl, hto, hlf, tls, lds, tlf, hW, okw, hF, tpl, hD, hn, hWs, q⟩ := h
    refine ⟨_, (pss_cons (ps_if (pt_cmpR op_in_seq (pe_ix ix_tup (pv 2) pe_int (fun _ _ => rfl)) (pe_glob (v := .ref pA) rfl g_P rfl) rfl) (pss_one (ps_dput (hu_of hr) (pe_fld (pv 1) rfl) (pe_ix ix_tup (pv 2) pe_int (fun _ _ => rfl)) (pe_call C_put.g hr (by rfl) C_put.m C_put.k C_put.b .nil pass0 (pa_cons (pv 2) (pa_cons (pv 1) (pa_cons (pv 3) pa_nil)))) rfl)) pss_nil)
      (pss_cons (ps_if (pt_cmpR op_eq (pe_ix ix_tup (pv 2) pe_int (fun _ _ => rfl)) pe_str (nomark _)) (pss_one (ps_expr (pe_bm PySem.F.plainAttrs_list PySem.F.slot_list_append PySem.F.type_list_append mt_append (pe_fld (pv 0) rfl) (pa_cons (pe_ix ix_tup (pe_meth (pv 1) T.cl mH GH hr bH .nil pass0 (pa_cons (pe_ix ix_tup (pv 2) pe_int (fun _ _ => rfl)) pa_nil)) pe_int (fun _ _ => rfl)) pa_nil)))) pss_nil)
      (pss_cons (ps_if (pt_cmpR op_eq (pe_ix ix_tup (pv 2) pe_int (fun _ _ => rfl)) pe_str (nomark _)) (pss_one (ps_expr (pe_meth (pv 0) clR mL GL hr bL .nil pass0 (pa_cons (pv 1) (pa_cons (pe_ix ix_tup (pv 2) pe_int (fun _ _ => rfl)) pa_nil))))) pss_nil)
      (pss_one (PS.by (t' := tLoop K CF) (ps_for PassesOwn.never rfl (pi_list (pe_callTy (call_list_dK rfl) (by rfl) m_list (by decide +kernel) (pa_cons (pe_fld (pv 1) rfl) pa_nil))) (pg_name (i := 4) sc_do.nd rfl (.inl rfl)) (pss_one (ps_if (pt_val (pe_call C_em.g hr (by rfl) C_em.m C_em.k C_em.b .nil pass0 (pa_cons (pv 2) (pa_cons (pv 4) pa_nil)))) (pss_one (ps_dput (hu_of hr) (pe_fld (pv 1) rfl) (pv 4) (pe_glob (v := .ref nA) rfl N.m rfl) rfl)) pss_nil))) (by
        rintro D σ H ⟨nw, fr, b, pl, wv, ans, z4, W, kd, Ws, n, f, rfl, hW, sm, hF, hD, hn, frb, q⟩
        obtain ⟨dx, fs, hf1, hf2, hf3, hf4, hf5⟩ := id hF
        obtain ⟨kvs, k1, k2, k3, k4, k5, k6, k7⟩ := id hD
        obtain ⟨bqs, eb, ev, hbk⟩ := keys_str k4
        have lb : bqs.length = kvs.length := by
          have := congrArg List.length eb
          rw [List.length_map, List.length_map] at this
          exact this.symm
        refine ⟨.ref fr, rfl, fr, CF, dx, fs, .ref b, rfl, hf1, T.cl, T.nB, hf2, b, kvs, rfl, k1, fun L nL => ?_⟩
        rw [ev]
        have xL : Ex [] H (upd H L (.lst (bqs.map V.str))) := .new nL
        have Lb : L ≠ b := fun z => by rw [z, k1] at nL; cases nL
        refine ⟨L, rfl, ⟨_, .of upd_same⟩, for_list (a := L) (xs := bqs.map V.str) (fun i σ H2 => ∃ z4', σ = [some nw, some (.ref fr), some wv, some ans, z4'] ∧ Ex [b] (upd H L (.lst (bqs.map V.str))) H2 ∧ H2 L = some (.lst (bqs.map V.str)) ∧ ∃ kvs2, H2 b = some (.dK kvs2) ∧ keysOf kvs2 = keysOf kvs ∧
          Hd K H2 b kd Ws n (wipeI f W ((keysOf kvs).take i))) ?_ ?_ ?_ ?_⟩
        · refine ⟨_, rfl, .refl, upd_same, kvs, xL.a b _ (by simp) k1 (fun _ z => by cases z), rfl, ?_⟩
          have ef : (wipeI f W ((keysOf kvs).take 0)) = f := by
            funext r
            unfold wipeI
            rw [if_neg (by simp)]
          rw [ef]
          exact hD.ex xL (by simp)
        · rintro i σ H2 _ ⟨z, _, _, hL, _⟩
          exact .of hL
        · rintro i x σ H2 hx ⟨z4', rfl, x2, hL2, kvs2, hb2, ek2, hD2⟩
          rw [List.getElem?_map] at hx
          cases hbi : bqs[i]? with
          | none => rw [hbi] at hx; cases hx
          | some bq =>
          rw [hbi] at hx
          cases hx
          have hkey : (keysOf kvs)[i]? = some (qK bq) := by
            unfold keysOf
            rw [eb, List.getElem?_map, hbi]; rfl
          have hbk2 := hbk bq (List.mem_of_getElem? hbi)
          have x02 : Ex [b] H H2 := (xL.mono (by simp)).trans x2
          have tk : (keysOf kvs).take (i + 1) = (keysOf kvs).take i ++ [qK bq] := by rw [List.take_add_one, hkey]; rfl
          refine ⟨wv, rfl, .str bq, rfl, wv, W, bq, rfl, hW.ex x02, sm, _, rfl, ite2 (fun e => ?_) fun e => ?_⟩
          · have hF2 := hF.ex x02 (by simpa using frb)
            obtain ⟨dx2, fs2, g1, g2, _⟩ := hF2
            have len2 : kvs2.length < sizeLine := by
              have : kvs2.length = kvs.length := by
                have := congrArg List.length ek2
                simpa [keysOf] using this
              rw [this, sizeLine_eq]; omega
            refine ⟨.ref fr, rfl, fr, CF, dx2, fs2, .ref b, rfl, g1, T.cl, T.nB, g2, .str bq, rfl, b, _, rfl, .inl ⟨kvs2, qK bq, hb2, rfl, len2, rfl⟩, ?_⟩
            have mk : qK bq ∈ keysOf kvs2 := by rw [ek2]; exact List.mem_of_getElem? hkey
            obtain ⟨kvs3, k1', k2', k3', k4', k5', k6', k7'⟩ := hD2
            rw [hb2] at k1'
            cases k1'
            have x3 : Ex [b] H2 (upd H2 b (.dK (putK kvs2 (qK bq) (.ref nA)))) := .put hb2 (fun _ z => by cases z) (by simp)
            have hp := Hd.put (x := (0, [])) hb2 k2' k3' k4' k5' k6' k7' hbk2 (N.tp H2) ⟨by simp, fun s m => by cases m⟩
            obtain ⟨kvs4, p1, p2, p3, p4, p5, p6, p7⟩ := hp
            rw [upd_same] at p1
            cases p1
            refine ⟨_, rfl, x2.trans x3, x3.lst hL2 (by simpa using Lb), _, upd_same, by unfold keysOf at mk ek2 ⊢; rw [putK_keys, if_pos mk]; exact ek2, ?_⟩
            have ef : (wipeI f W ((keysOf kvs).take (i + 1))) = setF (wipeI f W ((keysOf kvs).take i)) bq (0, []) := by
              funext r
              unfold setF wipeI
              rw [tk]
              by_cases er : r = bq
              · rw [if_pos er, if_pos ⟨by rw [er]; exact e, by rw [er]; simp⟩]
              · rw [if_neg er]
                have : (qK r ∈ (keysOf kvs).take i ++ [qK bq]) ↔ (qK r ∈ (keysOf kvs).take i) := by
                  rw [List.mem_append, List.mem_singleton]
                  exact ⟨fun z => z.elim id fun y => absurd (qK_inj y) er, .inl⟩
                rw [this]
            rw [ef]
            exact ⟨_, upd_same, by rw [putK_len mk]; exact k2', p3, p4, p5, p6, p7⟩
          · refine ⟨_, rfl, x2, hL2, kvs2, hb2, ek2, ?_⟩
            have ef : (wipeI f W ((keysOf kvs).take (i + 1))) = (wipeI f W ((keysOf kvs).take i)) := by
              funext r
              unfold wipeI
              rw [tk]
              by_cases er : r = bq
              · rw [er, if_neg fun z => e z.1, if_neg fun z => e z.1]
              · have : (qK r ∈ (keysOf kvs).take i ++ [qK bq]) ↔ (qK r ∈ (keysOf kvs).take i) := by
                  rw [List.mem_append, List.mem_singleton]
                  exact ⟨fun z => z.elim id fun y => absurd (qK_inj y) er, .inl⟩
                rw [this]
            rw [ef]; exact hD2
        · rintro σ H2 ⟨z4', rfl, x2, hL2, kvs2, hb2, ek2, hD2⟩
          refine q H2 z4' ((xL.mono (by simp)).trans x2) ?_
          have ef : (wipeI f W ((keysOf kvs).take (bqs.map V.str).length)) = emF f W := by
            funext r
            unfold wipeI emF
            have et : (keysOf kvs).take (bqs.map V.str).length = keysOf kvs := by
              rw [List.length_map, lb]
              exact List.take_of_length_le (by unfold keysOf; rw [List.length_map]; exact Nat.le_refl _)
            rw [et]
            by_cases e1 : emW W r = true
            · rw [if_pos e1]
              by_cases e2 : qK r ∈ keysOf kvs
              · rw [if_pos ⟨e1, e2⟩]
              · rw [if_neg fun z => e2 z.2]
                refine k6 r ?_
                unfold valV
                have : kvs.find? (fun kv => decide (kv.1 = qK r)) = none := by
                  rw [List.find?_eq_none]
                  intro p hp z
                  exact e2 (List.mem_map.mpr ⟨p, hp, of_decide_eq_true z⟩)
                rw [this]; rfl
            · rw [if_neg e1, if_neg fun z => e1 z.1]
          rw [← ef]; exact hD2)))))), ?_⟩
    obtain ⟨a, r0, rfl, hs, hr1⟩ := word_in hW
    obtain ⟨e1, e2, e3⟩ := kind_of W
    obtain ⟨dx, fs, hf1, hf2, hf3, hf4, hf5⟩ := id hF
    obtain ⟨kvs, k1, k2, k3, k4, k5, k6, k7⟩ := id hD
    have frb : fr ≠ b := ne_of hf1 k1 (by intro z; cases z)
    have btl : tl ≠ b := ne_of htl k1 (by intro z; cases z)
    have blf : lf ≠ b := ne_of hlf k1 (by intro z; cases z)
    have nwb : nw ≠ b := ne_of hR k1 (by intro z; cases z)
    have frtl : fr ≠ tl := ne_of hf1 htl (by intro z; cases z)
    have frlf : fr ≠ lf := ne_of hf1 hlf (by intro z; cases z)
    have nodrop : isDrop W = false → ∀ {A B : Prop}, B → if decide (V.str (kW W) = V.str (Str.ofString "drop")) = true then A else B := fun e A B x => by
      rw [dec_str, e3, e, if_neg (by decide)]; exact x
    have dodrop : isDrop W = true → ∀ {A B : Prop}, A → if decide (V.str (kW W) = V.str (Str.ofString "drop")) = true then A else B := fun e A B x => by
      rw [dec_str, e3, e, if_pos rfl]; exact x
    have notell : isTell W = false → ∀ {A B : Prop}, B → if decide (V.str (kW W) = V.str (Str.ofString "tell")) = true then A else B := fun e A B x => by
      rw [dec_str, e2, e, if_neg (by decide)]; exact x
    have dotell : isTell W = true → ∀ {A B : Prop}, A → if decide (V.str (kW W) = V.str (Str.ofString "tell")) = true then A else B := fun e A B x => by
      rw [dec_str, e2, e, if_pos rfl]; exact x
    refine ⟨.ref a, rfl, a, _, 0, .str (kW W), rfl, rfl, hs, at0, pA, _, rfl, .inr (tP H), rfl, strs_flat _, _, rfl, ?_⟩
    show if inV _ _ = true then _ else _
    rw [inV_strs, e1]
    cases hp : isPut W with
    | true =>
      have nt : isTell W = false := by cases W <;> first | rfl | cases hp
      have nd : isDrop W = false := by cases W <;> first | rfl | cases hp
      have em : ∀ g : Bq → Wv, emF g W = g := fun g => by
        funext r
        unfold emF
        rw [if_neg]
        cases W <;> first | (intro z; cases z; done) | cases hp
      have tw : tellW f W = [] := by cases W <;> first | rfl | cases hp
      have lw : leftW i f W = [] := by cases W <;> first | rfl | cases hp
      have hb1 := okw.box hp
      have b1 : ∃ r', r0 = .str (boxW W) :: r' := by
        cases W with
        | take b s => obtain ⟨r2, e, _⟩ := one_s hr1; exact ⟨r2, e⟩
        | ask b => obtain ⟨r2, e, _⟩ := one_s hr1; exact ⟨r2, e⟩
        | number b n => obtain ⟨r2, e, _⟩ := one_s hr1; exact ⟨r2, e⟩
        | copy b c => obtain ⟨r2, e, _⟩ := one_s hr1; exact ⟨r2, e⟩
        | mix b c d => obtain ⟨r2, e, _⟩ := one_s hr1; exact ⟨r2, e⟩
        | opn b c => obtain ⟨r2, e, _⟩ := one_s hr1; exact ⟨r2, e⟩
        | tell b => cases hp
        | wipe b => cases hp
        | clear b => cases hp
        | drop b => cases hp
        | risk b => cases hp
        | fault b => cases hp
        | back => cases hp
        | call b => cases hp
      obtain ⟨r', rfl⟩ := b1
      rw [if_pos rfl]
      refine ⟨.ref a, rfl, .ref fr, rfl, .int ans, rfl, fr, b, pl, .ref a, W, ans, kd, Ws, n, f, rfl, hW, hp, hF, hD, hWs, fun H1 u x1 tu => ?_⟩
      have k1' := x1.a b _ (by simp) k1 (fun _ z => by cases z)
      have len1 : kvs.length < sizeLine := by rw [sizeLine_eq]; omega
      refine ⟨.ref fr, rfl, fr, CF, dx, fs, .ref b, rfl, x1.a fr _ (by simp) hf1 (fun _ z => by cases z), T.cl, T.nB, hf2, .ref a, rfl, a, _, 1, .str (boxW W), rfl, rfl, x1.seqT hs, at1, b, _, rfl, .inl ⟨kvs, qK (boxW W), k1', rfl, len1, rfl⟩, ?_⟩
      have x2 : Ex [b] H1 (upd H1 b (.dK (putK kvs (qK (boxW W)) u))) := .put k1' (fun _ z => by cases z) (by simp)
      have vok : (valW f ans W).2.Nodup ∧ ∀ s ∈ (valW f ans W).2, s ∈ Ws := by
        cases W with
        | take b s => exact ⟨by simp [valW], fun s' m => by rw [List.mem_singleton.mp m]; exact okw.2⟩
        | ask b => exact ⟨by simp [valW], fun s' m => by cases m⟩
        | number b n => exact ⟨by simp [valW], fun s' m => by cases m⟩
        | copy b c => exact k7 c
        | opn b c => exact ⟨by simp [valW], fun s' m => by cases m⟩
        | tell b => cases hp
        | wipe b => cases hp
        | clear b => cases hp
        | drop b => cases hp
        | risk b => cases hp
        | fault b => cases hp
        | back => cases hp
        | call b => cases hp
        | mix b c d =>
          refine SU.ok (fun s' m => ?_) ?_
          · rcases List.mem_append.mp m with m | m
            · exact (k7 c).2 s' m
            · exact (k7 d).2 s' m
          · exact su_ex _
      have hD2 := Hd.put k1' k2 k3 k4 (fun q v hv => (k5 q v hv).ex x1) k6 k7 hb1 tu vok
      have x12 : Ex [b] H (upd H1 b (.dK (putK kvs (qK (boxW W)) u))) := (x1.mono (by simp)).trans x2
      refine ⟨.ref a, rfl, a, _, 0, .str (kW W), rfl, rfl, x12.seqT hs, at0, rfl, _, rfl, notell nt ?_⟩
      refine ⟨.ref a, rfl, a, _, 0, .str (kW W), rfl, rfl, x12.seqT hs, at0, rfl, _, rfl, nodrop nd ?_⟩
      refine ⟨.ref nw, fr, b, pl, .ref a, .int ans, none, W, kd, Ws, n + 1, _, rfl, hW.ex x12, okw.small, hF.ex x12 (by simpa using frb), hD2, by omega, frb, fun H' z4' x' hD' => ?_⟩
      rw [em] at hD'
      have x3 := x12.trans x'
      refine q H' ls (x3.mono (by simp)) ?_ ?_ (x3.lst hlf (by simpa using blf)) ?_
      · unfold stF
        rw [if_pos hp]; exact hD'
      · rw [tw, List.append_nil]
        exact x3.lst htl (by simpa using btl)
      · rw [lw, List.append_nil]
        exact tls.ex x3
    | false =>
      rw [if_neg (by decide)]
      have sf : stF f ans W = emF f W := by
        unfold stF
        rw [if_neg (by rw [hp]; decide)]
      cases ht : isTell W with
      | true =>
        cases W <;> try cases ht
        rename_i tb
        obtain ⟨r', rfl, _⟩ := one_s hr1
        refine ⟨.ref a, rfl, a, _, 0, _, rfl, rfl, hs, at0, rfl, _, rfl, dotell rfl ?_⟩
        refine ⟨.ref nw, rfl, nw, CR, dR, fR, .ref tl, rfl, hR, clR, nT, hRt, .inl ⟨rfl, _, .of htl⟩, .ref fr, rfl, fr, dx, fs, rfl, hf1, hf4, .ref a, rfl, a, _, 1, .str tb, rfl, rfl, hs, at1, fr, b, pl, .str tb, tb, kd, Ws, n, f, rfl, hF, hD, rfl, fun z hz => ?_⟩
        obtain ⟨z1, z2, rfl, hz1, hz2⟩ := wv_inv hz
        refine ⟨z1, _, 0, .int (f tb).1, rfl, rfl, hz1, at0, tl, _, _, rfl, rfl, htl, by rw [List.length_map, sizeLine_eq]; omega, ?_⟩
        have x2 : Ex [tl] H (upd H tl (.lst (told.map V.int ++ [.int (f tb).1]))) := .put htl nt_lst (by simp)
        refine ⟨.ref a, rfl, a, _, 0, _, rfl, rfl, x2.seqT hs, at0, rfl, _, rfl, nodrop rfl ?_⟩
        refine ⟨.ref nw, fr, b, pl, .ref a, .int ans, none, .tell tb, kd, Ws, n, f, rfl, hW.ex x2, True.intro, hF.ex x2 (by simpa using frtl), hD.ex x2 (by simpa using btl.symm), by omega, frb, fun H' z4' x' hD' => ?_⟩
        rw [← sf] at hD'
        have x3 : Ex [b, tl, lf] H H' := (x2.mono (by simp)).trans (x'.mono (by simp))
        refine q H' ls x3 (hD'.mono (by omega)) ?_ ?_ ?_
        · rw [x'.lst upd_same (by simpa using btl)]
          show some (HO.lst (told.map V.int ++ [.int (f tb).1])) = some (.lst ((told ++ [(f tb).1]).map V.int))
          rw [List.map_append]; rfl
        · exact x'.lst (x2.lst hlf (by simpa using tlf.symm)) (by simpa using blf)
        · show TpAll K _ _ (ds ++ [])
          rw [List.append_nil]
          exact tls.ex x3
      | false =>
        have tw : tellW f W = [] := by cases W <;> first | rfl | cases ht
        refine ⟨.ref a, rfl, a, _, 0, _, rfl, rfl, hs, at0, rfl, _, rfl, notell ht ?_⟩
        cases hd : isDrop W with
        | true =>
          cases W <;> try cases hd
          rename_i bs
          cases hr1 with
          | cons h1 h2 =>
            cases h1 with
            | tup hs2 ha2 =>
              rename_i r3 c ys
              rw [strs_inv ha2] at hs2
              refine ⟨.ref a, rfl, a, _, 0, _, rfl, rfl, hs, at0, rfl, _, rfl, dodrop rfl ?_⟩
              refine ⟨.ref nw, rfl, nw, dR, fR, rfl, hR, hRm, .ref fr, rfl, .ref a, rfl, a, _, 1, .ref c, rfl, rfl, hs, at1, nw, fr, b, lf, c, pl, bs, kd, Ws, n, i, f, ls, ds, rfl, ⟨dR, fR, hR, hRl⟩, hlf, tls, lds, .inl hs2, okw, hF, tpl, hD, fun H1 ls1 x1 hl1 tl1 => ?_⟩
              refine ⟨.ref nw, fr, b, pl, .ref a, .int ans, none, .drop bs, kd, Ws, n, f, rfl, hW.ex x1, True.intro, hF.ex x1 (by simpa using frlf), hD.ex x1 (by simpa using blf.symm), by omega, frb, fun H' z4' x' hD' => ?_⟩
              rw [← sf] at hD'
              refine q H' ls1 ((x1.mono (by simp)).trans (x'.mono (by simp))) (hD'.mono (by omega)) ?_ (x'.lst hl1 (by simpa using blf)) (tl1.ex x')
              rw [tw, List.append_nil]
              exact x'.lst (x1.lst htl (by simpa using tlf)) (by simpa using btl)
        | false =>
          have lw : leftW i f W = [] := by cases W <;> first | rfl | cases hd
          refine ⟨.ref a, rfl, a, _, 0, _, rfl, rfl, hs, at0, rfl, _, rfl, nodrop hd ?_⟩
          refine ⟨.ref nw, fr, b, pl, .ref a, .int ans, none, W, kd, Ws, n, f, rfl, hW, okw.small, hF, hD, by omega, frb, fun H' z4' x' hD' => ?_⟩
          rw [← sf] at hD'
          refine q H' ls (x'.mono (by simp)) (hD'.mono (by omega)) ?_ (x'.lst hlf (by simpa using blf)) ?_
          · rw [tw, List.append_nil]
            exact x'.lst htl (by simpa using btl)
          · rw [lw, List.append_nil]
            exact tls.ex x'
end
end K10

namespace Kk
open PySem PySem.Spec PyProof.Rows L2
/-! within a comprehension: the written part is the def's own -/
theorem pe_fldK {X : Cx} {K : PySem.W.Frag} {e : Expr} {f : Str} {pos : Pos} {ta : TE} (hK : X.K = K) (he : PE X e ta) (hb : attributeBase e f X.env (eval e X.env) = eval e X.env) : PE X (.Attribute e f pos) (tFld K ta f) := by subst hK; exact pe_fld he hb
theorem op_catB {X : Cx} {K : PySem.W.Frag} (h : X.K = K) : OpR X (binaryOp .Add) (rCatA K) := by subst h; exact op_catA
theorem op_neDK {X : Cx} {K : PySem.W.Frag} (h : X.K = K) (hu : X.A.units + 64 < cLine) : OpR X (compareOp .NotEq) (rNeD K) := by subst h; exact op_neD hu
theorem sl_tupK {X : Cx} {K : PySem.W.Frag} (h : X.K = K) : SlR X (rSlA K) := by subst h; exact sl_tupA
theorem cut1 {x : V} {xs : List V} : cutV (x :: xs) (some 1) none = xs := by
  unfold cutV
  have e1 : HT.sIx (x :: xs).length 0 (some 1) = 1 := by
    show (if (1 : Int) < 0 then ((1 : Int) + ((x :: xs).length : Int)).toNat else min (1 : Int).toNat (x :: xs).length) = 1
    rw [if_neg (by decide), List.length_cons]; show min 1 (xs.length + 1) = 1; omega
  rw [e1, HT.sIx_none]
  show xs.take ((x :: xs).length - 1) = xs
  rw [List.length_cons, Nat.add_sub_cancel, List.take_length]
theorem cut1n {x : V} {xs : List V} : ¬ (HT.sIx (x :: xs).length 0 (some 1) = 0 ∧ HT.sIx (x :: xs).length (x :: xs).length none = (x :: xs).length) := fun ⟨h, _⟩ => by
  have e1 : HT.sIx (x :: xs).length 0 (some 1) = 1 := by
    show (if (1 : Int) < 0 then ((1 : Int) + ((x :: xs).length : Int)).toNat else min (1 : Int).toNat (x :: xs).length) = 1
    rw [if_neg (by decide), List.length_cons]; show min 1 (xs.length + 1) = 1; omega
  rw [e1] at h; cases h
end Kk
namespace K10
open PySem PySem.Spec PyProof.Rows L2 Kk
abbrev s_held : Stmt := inClass (topS 27) 2
abbrev n_held : List Str := ["self", "found", "box", "one"]
theorem sc_held : FnScope n_held ["self"] (defScope s_held) := ⟨rfl, rfl, rfl, by decide +kernel, rfl, by decide +kernel, by decide +kernel⟩
def oneD (f : Bq → Wv) (q : Bq) : PyData := .tuple [.str q, .int (f q).1, .tuple ((f q).2.map .str)]
theorem shaped_wv {x : Wv} (h : ∀ s ∈ x.2, PyData.strOk s = true) : SeqAt.shaped (wvD x) = true := by
  have e : ∀ l : List Str, (∀ s ∈ l, PyData.strOk s = true) → PyData.canLayAll0 (l.map PyData.str) = true := by
    intro l
    induction l with
    | nil => intro _; rfl
    | cons a l ih =>
      intro h
      show (PyData.canLay0 (.str a) && PyData.canLayAll0 (l.map .str)) = true
      rw [show PyData.canLay0 (.str a) = PyData.strOk a from rfl, h a List.mem_cons_self, ih fun s m => h s (List.mem_cons_of_mem _ m)]; rfl
  have d : ∀ l : List Str, PyData.depthAll (l.map PyData.str) ≤ 1 := by
    intro l
    induction l with
    | nil => exact Nat.zero_le _
    | cons a l ih =>
      show max (PyData.depth (.str a)) (PyData.depthAll (l.map .str)) ≤ 1
      have : PyData.depth (.str a) ≤ 1 := by unfold PyData.depth; omega
      omega
  unfold SeqAt.shaped wvD
  have e1 : PyData.canLay0 (.tuple [.int x.1, .tuple (x.2.map .str)]) = true := by
    show (PyData.canLay0 (.int x.1) && (PyData.canLayAll0 (x.2.map .str) && true)) = true
    rw [e x.2 h]; rfl
  have e2 : PyData.depth (.tuple [.int x.1, .tuple (x.2.map .str)]) ≤ 64 := by
    have := d x.2
    simp only [PyData.depth, PyData.depthAll]
    omega
  rw [e1, decide_eq_true e2]; rfl
theorem eqv_nth (x : Wv) : PyData.eqv (wvD x) (wvD (0, [])) = decide (x = (0, [])) := by
  obtain ⟨n, ws⟩ := x
  have e1 : ((n : Int) == 0) = decide (n = 0) := by by_cases h : n = 0 <;> simp [h]
  cases ws with
  | nil =>
    simp only [wvD, PyData.eqv, PyData.eqvAll, List.map_nil, e1, Bool.and_true]
    rw [decide_eq_decide]
    exact ⟨fun h => by rw [h], fun h => (Prod.mk.inj h).1⟩
  | cons a l =>
    have e2 : decide ((n, a :: l) = ((0, []) : Wv)) = false := decide_eq_false fun h => by cases (Prod.mk.inj h).2
    rw [e2]
    simp [wvD, PyData.eqv, PyData.eqvAll]
section
variable {P : Program} {w : World} {K : PySem.W.Frag} {mg : Str → Option Value} {base : Heap}
def spHeld (K : PySem.W.Frag) (CF : Addr) : Sp := fun vs H Q _ => ∃ (fr b : Addr) (pl : V) (kd Ws : List Str) (n : Nat) (f : Bq → Wv), vs = [.ref fr] ∧ FrH CF H fr b pl ∧ Hd K H b kd Ws n f ∧ n < 64 ∧ (∀ s ∈ Ws, PyData.strOk s = true) ∧
  ∀ (H' : Hp) (t : Addr) (xs : List V) (qs : List Bq), Ex [] H H' → SqT K H' t xs → TpAll K H' xs (qs.map (oneD f)) → qs.Pairwise leS → qs.Nodup → (∀ q, q ∈ qs ↔ ¬ f q = (0, [])) → qs.length ≤ 1000 → Q (.ref t) H'
theorem ok_held {f CF nA eA : Addr} {fd : FuncData} {k : Nat} (F : Fun K "held" "Frame.held" s_held f fd) (T : TF K mg CF) (N : Nth K mg nA eA) (m_sorted : mg "sorted" = none) (m_list : mg "list" = none) (m_tuple : mg "tuple" = none) : FnOk P w K mg base CX0 (k + 1) f fd ["self"] (spHeld K CF) := by
  refine F.ok sc_held (fun vs H Q E h => ?_) (fun cdv A outer s H vs Q E hr h => ?_)
  · obtain ⟨fr, b, pl, kd, Ws, n, f, rfl, _⟩ := h; rfl
  · obtain ⟨fr, b, pl, kd, Ws, n, g, rfl, hF, hD, hn, hWs, q⟩ := h
    have hu64 : (A.deeper (envOfC "Frame.held" (defScope s_held) s.heap.objs.size f cdv)).units + 64 < cLine := hr.units
    refine ⟨_, (pss_cons (ps_setLc (i := 1) (own := [("box", 2)]) (g := gName 2) (tt := tYes) rfl sc_held.nd rfl rfl (sw_true rfl rfl rfl (by decide +kernel)) (pi_list (pe_callB (cr_sortTS (K := K) rfl) (by rfl) m_sorted (by decide +kernel) (pa_cons (pe_callTy (call_list_dK rfl) (by rfl) m_list (by decide +kernel) (pa_cons (pe_fld (pv 0) rfl) pa_nil)) pa_nil)))
          (blkOk_by (N := n_held) (sc := defScope s_held) (by decide +kernel)) (fun _ _ _ _ _ => pg_name (i := 2) sc_held.nd rfl (Or.inl rfl)) (fun _ _ _ _ _ => pts_nil)
          (fun _ _ _ _ _ => pe_op (op_catB (K := K) rfl) (pe_tup (pa_cons (pv 2) pa_nil)) (pe_dget (hu_of hr) (pe_fldK (K := K) rfl (pv 0) rfl) (pv 2) (fun _ _ => rfl))))
      (pss_one (ps_ret (pe_callTy call_tuple_of (by rfl) m_tuple (by decide +kernel) (pa_cons (pe_lc (own := [("one", 3)]) (g := gName 3) rfl sc_held.nd (pi_list (pv 1)) (blkOk_by (N := n_held) (sc := defScope s_held) (by decide +kernel)) (fun _ _ _ _ _ => pg_name (i := 3) sc_held.nd rfl (Or.inl rfl))
          (fun _ _ _ _ _ => pts_one (pt_cmpR (op_neDK (K := K) rfl hu64) (pe_slice (sl_tupK (K := K) rfl) (pv 3) (po_some pe_int) po_none) (pe_glob (v := .ref nA) rfl N.m rfl) (nomark _))) (fun _ _ _ _ _ => pv 3)) pa_nil))))), ?_⟩
    obtain ⟨dx, fs, hf1, hf2, hf3, hf4, hf5⟩ := id hF
    obtain ⟨kvs, k1, k2, k3, k4, k5, k6, k7⟩ := id hD
    obtain ⟨bqs, eb, ev, hbk⟩ := keys_str k4
    have ndb : bqs.Nodup := by
      rw [eb] at k3
      exact List.Pairwise.of_map qK (fun a b h e => h (by rw [e])) k3
    have lb : bqs.length ≤ n := by
      have := congrArg List.length eb
      rw [List.length_map, List.length_map] at this
      omega
    refine ⟨.ref fr, rfl, fr, CF, dx, fs, .ref b, rfl, hf1, T.cl, T.nB, hf2, b, kvs, rfl, k1, fun L nL => ?_⟩
    rw [ev]
    have xL : Ex [] H (upd H L (.lst (bqs.map V.str))) := .new nL
    refine ⟨L, bqs, rfl, .inr (.of upd_same), by omega, fun qs M pq srt nM => ?_⟩
    have xM : Ex [] (upd H L (.lst (bqs.map V.str))) (upd (upd H L (.lst (bqs.map V.str))) M (.lst (qs.map V.str))) := .new nM
    have xHM := xL.trans xM
    have hM : (upd (upd H L (.lst (bqs.map V.str))) M (.lst (qs.map V.str))) M = some (.lst (qs.map V.str)) := upd_same
    generalize upd (upd H L (.lst (bqs.map V.str))) M (.lst (qs.map V.str)) = H1 at xHM hM
    have lq : qs.length = bqs.length := pq.length_eq
    generalize hys : qs.map V.str = ys at hM
    have ly : ys.length = qs.length := by rw [← hys, List.length_map]
    have sq : qs.Pairwise leS := pw_sorted srt
    refine ⟨M, rfl, ⟨ys, .of hM⟩, fun D nD => ?_⟩
    have MD : M ≠ D := fun z => by rw [← z, hM] at nD; cases nD
    have bD : b ≠ D := ne_of_none (xHM.a b _ (by simp) k1 (fun _ z => by cases z)) nD
    have fD : fr ≠ D := ne_of_none (xHM.a fr _ (by simp) hf1 (fun _ z => by cases z)) nD
    have nD0 : H D = none := xHM.f _ nD
    refine lc_list (a := M) (xs := ys) (fun i H2 => ∃ acc, H2 D = some (.lst acc) ∧ TpAll K H2 acc ((qs.take i).map (oneD g)) ∧ H2 M = some (.lst ys) ∧ Ex [D] H1 H2) ?_ ?_ ?_ ?_
    · exact ⟨[], upd_same, by rw [List.take_zero]; exact .nil, by rw [upd_ne MD]; exact hM, .new nD⟩
    · rintro i H2 _ ⟨acc, _, _, h, _⟩
      exact .of h
    · rintro i x H2 hx ⟨acc, hDa, ha, hM2, x2⟩
      rw [← hys, List.getElem?_map] at hx
      cases hqi : qs[i]? with
      | none => rw [hqi] at hx; cases hx
      | some q1 =>
        rw [hqi] at hx
        cases hx
        have il : i < qs.length := (List.getElem?_eq_some_iff.mp hqi).1
        have mq : q1 ∈ bqs := pq.mem_iff.mp (List.mem_of_getElem? hqi)
        have xH2 : Ex [D] H H2 := (xHM.mono (by simp)).trans x2
        refine ⟨rfl, ?_⟩
        refine ⟨.str q1, rfl, (by show 1 ≤ sizeLine; decide), fun Z nZ => ?_⟩
        have xZ : Ex [] H2 (upd H2 Z (.tup [.str q1])) := .new nZ
        have xHZ : Ex [D] H (upd H2 Z (.tup [.str q1])) := xH2.trans (xZ.mono (by simp))
        have hkv : ∃ v, valV kvs (qK q1) = some v := by
          cases hv : valV kvs (qK q1) with
          | some v => exact ⟨v, rfl⟩
          | none =>
            exfalso
            have mk : qK q1 ∈ kvs.map (·.1) := by rw [eb]; exact List.mem_map.mpr ⟨q1, mq, rfl⟩
            obtain ⟨kv, hkv, e⟩ := List.mem_map.mp mk
            unfold valV at hv
            have : kvs.find? (fun kv => decide (kv.1 = qK q1)) ≠ none := by
              rw [Ne, List.find?_eq_none]
              intro z
              exact z kv hkv (decide_eq_true e)
            cases hfd : kvs.find? (fun kv => decide (kv.1 = qK q1)) with
            | none => exact this hfd
            | some y => rw [hfd] at hv; cases hv
        obtain ⟨v, hv⟩ := hkv
        obtain ⟨v1, v2, rfl, hv1, hv2⟩ := wv_inv (k5 q1 v hv)
        refine ⟨.ref fr, rfl, fr, CF, dx, fs, .ref b, rfl, xHZ.a fr _ (by simpa using fD) hf1 (fun _ z => by cases z), T.cl, T.nB, hf2, .str q1, rfl, b, .ref v1, rfl, ?_, ?_⟩
        · rw [← hv]
          exact DGet.k (k := qK q1) (xHZ.a b _ (by simpa using bD) k1 (fun _ z => by cases z))
        · have e1 : SqT K (upd H2 Z (.tup [.str q1])) v1 [.int (g q1).1, .ref v2] := xHZ.seqT hv1
          have e2 : SqT K (upd H2 Z (.tup [.str q1])) v2 ((g q1).2.map V.str) := xHZ.seqT hv2
          refine tp_cat (K := K) (ds := [.str q1]) (es := [.int (g q1).1, .tuple ((g q1).2.map .str)]) (.of upd_same) e1 (.cons (.str _) .nil) (.cons (.int _) (.cons (.tup e2 (TpAll.strs _)) .nil)) (by simp) fun p3 H3 zs x3 hs3 ht3 => ?_
          have hD3 := x3.lst (xZ.lst hDa)
          have lacc := ha.len
          rw [List.length_map, List.length_take] at lacc
          have x4 : Ex [D] H3 (upd H3 D (.lst (acc ++ [.ref p3]))) := .put hD3 nt_lst (by simp)
          refine ⟨acc, hD3, by rw [sizeLine_eq]; omega, acc ++ [.ref p3], upd_same, ?_, ?_, ((x2.trans (xZ.mono (by simp))).trans (x3.mono (by simp))).trans x4⟩
          · rw [List.take_add_one, hqi]
            show TpAll K _ _ ((qs.take i ++ [q1]).map (oneD g))
            rw [List.map_append]
            exact (((ha.ex xZ).ex x3).ex x4).app (.cons ((Tp.tup hs3 ht3).ex x4) .nil)
          · exact x4.lst (x3.lst (xZ.lst hM2)) (by simpa using MD)
    · rintro H2 ⟨acc, hDa, ha, hM2, x2⟩
      rw [ly, List.take_length] at ha
      have xH2 : Ex [] H H2 := Ex.own nD0 xHM x2
      have la := ha.len
      rw [List.length_map] at la
      refine ⟨.ref D, rfl, D, rfl, ⟨acc, .of hDa⟩, fun D2 nD2 => ?_⟩
      have DD : D ≠ D2 := fun z => by rw [← z, hDa] at nD2; cases nD2
      have nD20 : H D2 = none := xH2.f _ nD2
      refine lc_list (a := D) (xs := acc) (fun i H3 => ∃ acc2, H3 D2 = some (.lst acc2) ∧ TpAll K H3 acc2 (((qs.take i).filter fun q => decide (¬ g q = (0, []))).map (oneD g)) ∧ H3 D = some (.lst acc) ∧ Ex [D2] H2 H3 ∧ acc2.length ≤ i) ?_ ?_ ?_ ?_
      · exact ⟨[], upd_same, by rw [List.take_zero]; exact .nil, by rw [upd_ne DD]; exact hDa, .new nD2, Nat.le_refl _⟩
      · rintro i H3 _ ⟨_, _, _, h, _⟩
        exact .of h
      · rintro i x H3 hx ⟨acc2, hD2, ha2, hD3, x3, l2⟩
        obtain ⟨d1, hd1, tx⟩ := ha.get hx
        rw [List.getElem?_map] at hd1
        cases hqi : qs[i]? with
        | none => rw [hqi] at hd1; cases hd1
        | some q1 =>
          rw [hqi] at hd1
          cases hd1
          have il : i < qs.length := (List.getElem?_eq_some_iff.mp hqi).1
          have tx3 := tx.ex x3
          unfold oneD at tx3
          cases tx3 with
          | tup hs ha1 =>
            rename_i o zs
            cases ha1 with
            | cons h1 h2 =>
              rename_i z0 zr
              refine ⟨rfl, ?_⟩
              refine ⟨.ref o, rfl, 1, rfl, o, _, rfl, hs, fun z => absurd z cut1n, fun _ B nB => ?_⟩
              rw [cut1]
              have xB : Ex [] H3 (upd H3 B (.tup zr)) := .new nB
              have dB : Dp K (upd H3 B (.tup zr)) (.ref B) (wvD (g q1)) := .tup (.of upd_same) (h2.ex xB).dp
              refine ⟨wvD (g q1), wvD (0, []), dB, (N.tp _).dp, shaped_wv (fun s m => hWs s ((k7 q1).2 s m)), rfl, _, rfl, ?_⟩
              rw [eqv_nth]
              have tk : (qs.take (i + 1)).filter (fun q => decide (¬ g q = (0, []))) = (qs.take i).filter (fun q => decide (¬ g q = (0, []))) ++ (if g q1 = (0, []) then [] else [q1]) := by
                rw [List.take_add_one, hqi, List.filter_append]
                congr 1
                show [q1].filter _ = _
                rw [List.filter_cons]
                by_cases e : g q1 = (0, []) <;> simp [e]
              refine ite2 (fun e => ?_) fun e => ?_
              · have ng : ¬ g q1 = (0, []) := fun z => by rw [decide_eq_true z] at e; cases e
                have hD4 := xB.lst hD2
                have x4 : Ex [D2] (upd H3 B (.tup zr)) (upd (upd H3 B (.tup zr)) D2 (.lst (acc2 ++ [.ref o]))) := .put hD4 nt_lst (by simp)
                refine ⟨.ref o, rfl, acc2, hD4, by rw [sizeLine_eq]; omega, acc2 ++ [.ref o], upd_same, ?_, x4.lst (xB.lst hD3) (by simpa using DD), (x3.trans (xB.mono (by simp))).trans x4, by rw [List.length_append, List.length_singleton]; omega⟩
                rw [tk, if_neg ng, List.map_append]
                refine ((ha2.ex xB).ex x4).app (.cons (Tp.ex (Ex.trans (xB.mono (by simp)) x4) ?_) .nil)
                exact .tup hs (.cons h1 h2)
              · have ng : g q1 = (0, []) := by
                  refine Decidable.byContradiction fun z => e ?_
                  rw [decide_eq_false z]; rfl
                refine ⟨acc2, xB.lst hD2, ?_, xB.lst hD3, x3.trans (xB.mono (by simp)), by omega⟩
                rw [tk, if_pos ng, List.append_nil]
                exact ha2.ex xB
      · rintro H3 ⟨acc2, hD2, ha2, hD3, x3, l2⟩
        rw [la, List.take_length] at ha2
        refine ⟨D2, acc2, rfl, .inl ⟨.of hD2, fun t nt => ?_⟩⟩
        have xt : Ex [] H3 (upd H3 t (.tup acc2)) := .new nt
        have xH3 : Ex [] H H3 := Ex.own nD20 xH2 x3
        refine q _ t acc2 (qs.filter fun q => decide (¬ g q = (0, []))) (xH3.trans xt) (.of upd_same) (ha2.ex xt) (sq.filter _) ((pq.nodup_iff.mpr ndb).filter _) (fun r => ?_) (Nat.le_trans (List.length_filter_le _ _) (by omega))
        rw [List.mem_filter]
        constructor
        · intro z; exact of_decide_eq_true z.2
        · intro z
          refine ⟨?_, decide_eq_true z⟩
          rw [pq.mem_iff]
          refine Decidable.byContradiction fun nm => z (k6 r ?_)
          unfold valV
          have : kvs.find? (fun kv => decide (kv.1 = qK r)) = none := by
            rw [List.find?_eq_none]
            intro p hp e
            have mk : qK r ∈ kvs.map (·.1) := List.mem_map.mpr ⟨p, hp, of_decide_eq_true e⟩
            rw [eb] at mk
            obtain ⟨r', h1, h2⟩ := List.mem_map.mp mk
            exact nm (by rw [← qK_inj h2]; exact h1)
          rw [this]; rfl
end
end K10

set_option maxHeartbeats 4000000
namespace K10
open PySem PySem.Spec PyProof.Rows L2 Kk
abbrev s_row_of : Stmt := topS 10
abbrev s_around : Stmt := topS 12
abbrev s_wordat : Stmt := topS 13
abbrev s_behind : Stmt := topS 14
abbrev s_head : Stmt := topS 20
abbrev s_leads : Stmt := topS 22
theorem sc_row_of : FnScope ["program", "name"] ["program", "name"] (defScope s_row_of) := ⟨rfl, rfl, rfl, by decide +kernel, rfl, by decide +kernel, by decide +kernel⟩
theorem sc_around : FnScope ["program", "place", "row", "at"] ["program", "place"] (defScope s_around) := ⟨rfl, rfl, rfl, by decide +kernel, rfl, by decide +kernel, by decide +kernel⟩
theorem sc_wordat : FnScope ["program", "place", "row"] ["program", "place"] (defScope s_wordat) := ⟨rfl, rfl, rfl, by decide +kernel, rfl, by decide +kernel, by decide +kernel⟩
theorem sc_behind : FnScope ["program", "place", "row"] ["program", "place"] (defScope s_behind) := ⟨rfl, rfl, rfl, by decide +kernel, rfl, by decide +kernel, by decide +kernel⟩
theorem sc_head : FnScope ["program", "name", "one"] ["program", "name"] (defScope s_head) := ⟨rfl, rfl, rfl, by decide +kernel, rfl, by decide +kernel, by decide +kernel⟩
theorem pe_nv {X : Cx} {e : Expr} : PE X e (fun _ _ _ => False) := ⟨fun _ _ _ _ _ _ q => q.elim⟩
abbrev emp : Str := Str.ofString ""
def rowD (ws : List Wo) : PyData := .tuple (ws.map wD)
def pgD (ws : List Wo) : PyData := .tuple [.tuple [], rowD ws]
/-- the word at a place, or none -/
def wdAt (ws : List Wo) (n : Nat) : PyData := ((ws.map wD)[n]?).getD .none
theorem plc_in {K : PySem.W.Frag} {H : Hp} {v : V} {n : Nat} (h : Tp K H v (plcD n)) : ∃ a, v = .ref a ∧ SqT K H a [.str emp, .int n] := by
  unfold plcD at h
  cases h with
  | tup hs ha =>
    cases ha with
    | cons a1 a2 =>
      cases a1
      cases a2 with
      | cons b1 b2 =>
        cases b1; cases b2
        exact ⟨_, rfl, hs⟩
theorem plc_mk {K : PySem.W.Frag} {H : Hp} {a : Addr} {n : Nat} (h : SqT K H a [.str emp, .int n]) : Tp K H (.ref a) (plcD n) := .tup h (.cons (.str _) (.cons (.int _) .nil))
theorem pg_in {K : PySem.W.Frag} {H : Hp} {v : V} {ws : List Wo} (h : Tp K H v (pgD ws)) : ∃ a u r, v = .ref a ∧ SqT K H a [u, r] ∧ Tp K H r (rowD ws) := by
  unfold pgD at h
  cases h with
  | tup hs ha =>
    cases ha with
    | cons a1 a2 =>
      cases a2 with
      | cons b1 b2 =>
        cases b2
        exact ⟨_, _, _, rfl, hs, b1⟩
theorem row_in {K : PySem.W.Frag} {H : Hp} {v : V} {ws : List Wo} (h : Tp K H v (rowD ws)) : ∃ a xs, v = .ref a ∧ SqT K H a xs ∧ TpAll K H xs (ws.map wD) := by
  unfold rowD at h
  cases h with
  | tup hs ha => exact ⟨_, _, rfl, hs, ha⟩
theorem atN {α : Type} {xs : List α} {j : Nat} {v : α} (h : xs[j]? = some v) : atI xs (j : Int) = some v := atI_nat h
theorem rg10 : RgC 1 0 2 0 := ⟨by decide, by decide, by decide, by decide⟩
theorem itD {p A B : Prop} [Decidable p] (h : p) (a : A) : if decide p = true then A else B := by rw [if_pos (decide_eq_true h)]; exact a
theorem itN {p A B : Prop} [Decidable p] (h : ¬ p) (b : B) : if decide p = true then A else B := by rw [if_neg (by rw [decide_eq_false h]; exact Bool.false_ne_true)]; exact b
section
variable {P : Program} {w : World} {K : PySem.W.Frag} {mg : Str → Option Value} {base : Heap}
def spRowOf (K : PySem.W.Frag) : Sp := fun vs H Q _ => ∃ (p : V) (ws : List Wo), vs = [p, .str emp] ∧ Tp K H p (pgD ws) ∧ ∀ u, Tp K H u (rowD ws) → Q u H
theorem ok_row_of {f : Addr} {fd : FuncData} {k : Nat} (F : Fun K "row_of" "row_of" s_row_of f fd) : FnOk P w K mg base CX0 (k + 1) f fd ["program", "name"] (spRowOf K) := by
  refine F.ok sc_row_of (fun vs H Q E h => ?_) (fun cdv A outer s H vs Q E hr h => ?_)
  · obtain ⟨p, ws, rfl, _⟩ := h; rfl
  · obtain ⟨p, ws, rfl, hp, q⟩ := h
    refine ⟨_, (pss_cons (ps_if (pt_cmpR op_eq (pv 1) pe_str (nomark _)) (pss_one (ps_ret (pe_ix ix_tup (pv 0) pe_int (fun _ _ => rfl)))) pss_nil) (pss_one ps_nv)), ?_⟩
    obtain ⟨a, u, r, rfl, hs, hr1⟩ := pg_in hp
    exact ⟨.str emp, rfl, rfl, _, rfl, sY ⟨.ref a, rfl, a, _, 1, _, rfl, rfl, hs, at1, q r hr1⟩⟩
def spAround (K : PySem.W.Frag) : Sp := fun vs H Q _ => ∃ (p pl : V) (ws : List Wo) (n : Nat), vs = [p, pl] ∧ Tp K H p (pgD ws) ∧ Tp K H pl (plcD n) ∧ ∀ u, Tp K H u (rowD ws) → Q u H
theorem ok_around {f fR : Addr} {fd fdR : FuncData} {k : Nat} (F : Fun K "row_around" "row_around" s_around f fd) (CR : Cl P w K mg base k "row_of" ["program", "name"] (spRowOf K) fR fdR) (m_len : mg "len" = none) (m_range : mg "range" = none) :
    FnOk P w K mg base CX0 (k + 1) f fd ["program", "place"] (spAround K) := by
  refine F.ok sc_around (fun vs H Q E h => ?_) (fun cdv A outer s H vs Q E hr h => ?_)
  · obtain ⟨p, pl, ws, n, rfl, _⟩ := h; rfl
  · obtain ⟨p, pl, ws, n, rfl, hp, hpl, q⟩ := h
    refine ⟨_, pss_cons (ps_set (i := 2) sc_around.nd rfl (.inl rfl) (pe_call CR.g hr (by rfl) CR.m CR.k CR.b .nil pass0 (pa_cons (pv 0) (pa_cons (pe_ix ix_tup (pv 1) pe_int (fun _ _ => rfl)) pa_nil))))
      (pss_cons (ps_for PassesOwn.never rfl (pi_range3 (by rfl) m_range (pa_cons pe_int (pa_cons (pe_op op_sub (pe_callB call_len_seq (by rfl) m_len PySem.boot_len (pa_cons (pv 1) pa_nil)) pe_int) (pa_cons pe_int pa_nil)))) (pg_name (i := 3) sc_around.nd rfl (.inl rfl)) (pss_one ps_nv))
      (pss_one (ps_ret (pv 2)))), ?_⟩
    obtain ⟨a, rfl, hA⟩ := plc_in hpl
    refine ⟨p, rfl, .ref a, rfl, a, _, 0, _, rfl, rfl, hA, at0, p, ws, rfl, hp, fun u hu => ?_⟩
    refine ⟨.ref a, rfl, a, _, rfl, .inr hA, _, 2, rfl, rfl, 1, 0, 2, 0, rfl, rg10, ?_⟩
    refine for_rangeC (lo := 1) (c := 2) (n := 0) (tb := fun _ _ _ => False) (fun i σ H2 => σ = [some p, some (.ref a), some u, none] ∧ H = H2) ?_ ?_ ?_
    · exact ⟨rfl, rfl⟩
    · intro i σ H2 hi; omega
    · rintro σ H2 ⟨rfl, rfl⟩
      exact ⟨u, rfl, q u hu⟩
def spWordAt (K : PySem.W.Frag) : Sp := fun vs H Q _ => ∃ (p pl : V) (ws : List Wo) (n : Nat), vs = [p, pl] ∧ Tp K H p (pgD ws) ∧ Tp K H pl (plcD n) ∧ ∀ u, Tp K H u (wdAt ws n) → Q u H
theorem ok_wordat {f fA : Addr} {fd fdA : FuncData} {k : Nat} (F : Fun K "word_at" "word_at" s_wordat f fd) (CA : Cl P w K mg base k "row_around" ["program", "place"] (spAround K) fA fdA) (m_len : mg "len" = none) :
    FnOk P w K mg base CX0 (k + 1) f fd ["program", "place"] (spWordAt K) := by
  refine F.ok sc_wordat (fun vs H Q E h => ?_) (fun cdv A outer s H vs Q E hr h => ?_)
  · obtain ⟨p, pl, ws, n, rfl, _⟩ := h; rfl
  · obtain ⟨p, pl, ws, n, rfl, hp, hpl, q⟩ := h
    refine ⟨_, pss_cons (ps_set (i := 2) sc_wordat.nd rfl (.inl rfl) (pe_call CA.g hr (by rfl) CA.m CA.k CA.b .nil pass0 (pa_cons (pv 0) (pa_cons (pv 1) pa_nil))))
      (pss_cons (ps_if (pt_cmpR op_lt (pe_ix ix_tup (pv 1) (pe_un un_neg pe_int) (fun _ _ => rfl)) (pe_callB call_len_seq (by rfl) m_len PySem.boot_len (pa_cons (pv 2) pa_nil)) (nomark _))
        (pss_one (ps_ret (pe_ix ix_tup (pv 2) (pe_ix ix_tup (pv 1) (pe_un un_neg pe_int) (fun _ _ => rfl)) (fun _ _ => rfl)))) pss_nil) (pss_one (ps_ret pe_non))), ?_⟩
    refine ⟨p, rfl, pl, rfl, p, pl, ws, n, rfl, hp, hpl, fun u hu => ?_⟩
    obtain ⟨a, rfl, hA⟩ := plc_in hpl
    obtain ⟨b, xs, rfl, hs, ha⟩ := row_in hu
    have hl := ha.len
    have hat : atI [V.str emp, .int (n : Nat)] (-1) = some (.int (n : Nat)) := rfl
    refine ⟨.ref a, rfl, 1, rfl, a, _, -1, .int (n : Nat), rfl, rfl, hA, hat, .ref b, rfl, b, xs, rfl, .inr hs, _, _, rfl, rfl, _, rfl, ite2 (fun e => ?_) (fun e => ?_)⟩
    · have hk : n < xs.length := by have := of_decide_eq_true e; omega
      obtain ⟨d1, hd1, td1⟩ := ha.get (List.getElem?_eq_getElem hk)
      refine ⟨.ref b, rfl, .ref a, rfl, 1, rfl, a, _, -1, .int (n : Nat), rfl, rfl, hA, hat, b, xs, _, xs[n], rfl, rfl, hs, atN (List.getElem?_eq_getElem hk), q _ ?_⟩
      unfold wdAt
      rw [hd1]; exact td1
    · have hk : xs.length ≤ n := by
        have : ¬ ((n : Int) < (xs.length : Int)) := fun z => e (decide_eq_true z)
        omega
      refine q _ ?_
      unfold wdAt
      rw [List.getElem?_eq_none (by rw [← hl]; exact hk)]
      exact .non
def spBehind (K : PySem.W.Frag) : Sp := fun vs H Q _ => ∃ (p pl : V) (ws : List Wo) (n : Nat), vs = [p, pl] ∧ Tp K H p (pgD ws) ∧ Tp K H pl (plcD n) ∧ n < ws.length ∧ ∀ H' u, Ex [] H H' → Tp K H' u (plcD (n + 1)) → Q u H'
theorem ok_behind {f fA : Addr} {fd fdA : FuncData} {k : Nat} (F : Fun K "behind" "behind" s_behind f fd) (CA : Cl P w K mg base k "row_around" ["program", "place"] (spAround K) fA fdA) (m_len : mg "len" = none) :
    FnOk P w K mg base CX0 (k + 1) f fd ["program", "place"] (spBehind K) := by
  refine F.ok sc_behind (fun vs H Q E h => ?_) (fun cdv A outer s H vs Q E hr h => ?_)
  · obtain ⟨p, pl, ws, n, rfl, _⟩ := h; rfl
  · obtain ⟨p, pl, ws, n, rfl, hp, hpl, hn, q⟩ := h
    refine ⟨_, pss_one (ps_while PassesOwn.never (pt_val pe_bl)
      (pss_cons (ps_set (i := 2) sc_behind.nd rfl (.inl rfl) (pe_call CA.g hr (by rfl) CA.m CA.k CA.b .nil pass0 (pa_cons (pv 0) (pa_cons (pv 1) pa_nil))))
      (pss_cons (ps_if (pt_cmpR op_lt (pe_op op_add (pe_ix ix_tup (pv 1) (pe_un un_neg pe_int) (fun _ _ => rfl)) pe_int) (pe_callB call_len_seq (by rfl) m_len PySem.boot_len (pa_cons (pv 2) pa_nil)) (nomark _))
        (pss_one (ps_ret (pe_op op_catA (pe_slice sl_tupA (pv 1) po_none (po_some (pe_un un_neg pe_int))) (pe_tup (pa_cons (pe_op op_add (pe_ix ix_tup (pv 1) (pe_un un_neg pe_int) (fun _ _ => rfl)) pe_int) pa_nil))))) pss_nil)
      (pss_cons (ps_if (pt_cmpR op_eq (pe_callB call_len_seq (by rfl) m_len PySem.boot_len (pa_cons (pv 1) pa_nil)) pe_int (nomark _))
        (pss_one (ps_ret (pe_tup (pa_cons (pe_ix ix_tup (pv 1) pe_int (fun _ _ => rfl)) (pa_cons (pe_callB call_len_seq (by rfl) m_len PySem.boot_len (pa_cons (pv 2) pa_nil)) pa_nil))))) pss_nil)
      (pss_cons ps_nv (pss_one ps_nv)))))), ?_⟩
    refine ⟨fun M σ H2 => σ = [some p, some pl, none] ∧ H2 = H, ⟨0, rfl, rfl⟩, ?_⟩
    rintro M σ H2 ⟨rfl, eH⟩
    rw [eH]
    clear eH H2
    refine ⟨true, rfl, iteT ⟨fun σ' H' => False, fun _ _ z => z.elim, ?_⟩⟩
    refine ⟨p, rfl, pl, rfl, p, pl, ws, n, rfl, hp, hpl, fun u hu => ?_⟩
    obtain ⟨a, rfl, hA⟩ := plc_in hpl
    obtain ⟨b, xs, rfl, hs, ha⟩ := row_in hu
    have hl := ha.len
    rw [List.length_map] at hl
    have hat : atI [V.str emp, .int (n : Nat)] (-1) = some (.int (n : Nat)) := rfl
    refine ⟨.ref a, rfl, 1, rfl, a, _, -1, .int (n : Nat), rfl, rfl, hA, hat, _, 1, rfl, rfl, .ref b, rfl, b, xs, rfl, .inr hs, _, _, rfl, rfl, _, rfl, ite2 (fun e => ?_) (fun e => ?_)⟩
    · refine ⟨.ref a, rfl, 1, rfl, -1, rfl, a, _, rfl, hA, fun z => ?_, fun _ B nB => ?_⟩
      · exact absurd z.2 (show ¬ (1 : Nat) = 2 by decide)
      have ec : cutV [V.str emp, .int (n : Nat)] none (some (-1)) = [.str emp] := rfl
      rw [ec]
      have wB : Ex [] H (upd H B (.tup [.str emp])) := .new nB
      refine ⟨.ref a, rfl, 1, rfl, a, _, -1, .int (n : Nat), rfl, rfl, wB.seqT hA, hat, _, 1, rfl, rfl, (by show 1 ≤ sizeLine; decide), fun O nO => ?_⟩
      have wO : Ex [] (upd H B (.tup [.str emp])) (upd (upd H B (.tup [.str emp])) O (.tup [.int ((n : Nat) + 1)])) := .new nO
      refine tp_cat (K := K) (ds := [.str emp]) (es := [.int ((n : Nat) + 1)]) (.of (wO.tup upd_same)) (.of upd_same) (.cons (.str _) .nil) (.cons (.int _) .nil) (by simp) fun p3 H3 zs x3 hs3 ht3 => ?_
      exact q _ _ ((wB.trans wO).trans x3) (.tup hs3 ht3)
    · have hk : n + 1 = ws.length := by
        have : ¬ ((n : Int) + 1 < (xs.length : Int)) := fun z => e (decide_eq_true z)
        omega
      refine ⟨.ref a, rfl, a, _, rfl, .inr hA, rfl, _, rfl, itD rfl ?_⟩
      refine ⟨.ref a, rfl, a, _, 0, .str emp, rfl, rfl, hA, at0, .ref b, rfl, b, xs, rfl, .inr hs, (by show 2 ≤ sizeLine; decide), fun T nT => q _ _ (.new nT) (plc_mk (.of ?_))⟩
      rw [upd_same, hl, hk]
def spHead : Sp := fun vs H Q _ => ∃ (p : V), vs = [p, .str emp] ∧ ∀ H' t a b, Ex [] H H' → H' t = some (.tup [.ref a, .ref b]) → H' b = some (.tup []) → Q (.ref t) H'
theorem ok_head {f : Addr} {fd : FuncData} {k : Nat} (F : Fun K "head_of" "head_of" s_head f fd) : FnOk P w K mg base CX0 (k + 1) f fd ["program", "name"] spHead := by
  refine F.ok sc_head (fun vs H Q E h => ?_) (fun cdv A outer s H vs Q E hr h => ?_)
  · obtain ⟨p, rfl, _⟩ := h; rfl
  · obtain ⟨p, rfl, q⟩ := h
    refine ⟨_, (pss_cons (ps_if (pt_cmpR op_eq (pv 1) pe_str (nomark _)) (pss_one (ps_ret (pe_tup (pa_cons (pe_tup pa_nil) (pa_cons (pe_tup pa_nil) pa_nil))))) pss_nil) (pss_cons ps_nv (pss_one ps_nv))), ?_⟩
    refine ⟨.str emp, rfl, rfl, _, rfl, sY ⟨l0, fun a na => ⟨l0, fun b nb => ⟨l2, fun t nt => ?_⟩⟩⟩⟩
    have xb : Ex [] H _ := (Ex.new na (o := .tup [])).trans ((Ex.new nb (o := .tup [])).trans (Ex.new nt (o := .tup [.ref a, .ref b])))
    exact q _ t a b xb upd_same ((Ex.new nt (xs := [])).tup upd_same)
end
end K10

set_option maxHeartbeats 4000000
namespace K10
open PySem PySem.Spec PyProof.Rows L2 Kk
theorem sc_leads : FnScope ["program", "place", "word", "answers"] ["program", "place"] (defScope s_leads) := ⟨rfl, rfl, rfl, by decide +kernel, rfl, by decide +kernel, by decide +kernel⟩
def leadL : List Str := [Str.ofString "fault", Str.ofString "back", Str.ofString "choose", Str.ofString "loop", Str.ofString "out", Str.ofString "risk", Str.ofString "call"]
/-- a word that goes on in its own row -/
def plainW : Wo → Bool
  | .risk _ => false
  | .fault _ => false
  | .back => false
  | .call _ => false
  | _ => true
theorem plain_k {W : Wo} (h : plainW W = true) : ¬ kW W ∈ leadL := by
  cases W with
  | take b s => exact (show ¬ Str.ofString "take" ∈ leadL by decide +kernel)
  | ask b => exact (show ¬ Str.ofString "ask" ∈ leadL by decide +kernel)
  | number b n => exact (show ¬ Str.ofString "number" ∈ leadL by decide +kernel)
  | copy b c => exact (show ¬ Str.ofString "copy" ∈ leadL by decide +kernel)
  | mix b c d => exact (show ¬ Str.ofString "mix" ∈ leadL by decide +kernel)
  | opn b c => exact (show ¬ Str.ofString "open" ∈ leadL by decide +kernel)
  | tell b => exact (show ¬ Str.ofString "tell" ∈ leadL by decide +kernel)
  | wipe b => exact (show ¬ Str.ofString "wipe" ∈ leadL by decide +kernel)
  | clear x => exact (show ¬ Str.ofString "clear" ∈ leadL by decide +kernel)
  | drop bs => exact (show ¬ Str.ofString "drop" ∈ leadL by decide +kernel)
  | risk x => cases h
  | fault x => cases h
  | back => cases h
  | call x => cases h
theorem wdAt_some {ws : List Wo} {n : Nat} {W : Wo} (h : ws[n]? = some W) : wdAt ws n = wD W := by
  unfold wdAt
  rw [List.getElem?_map, h]; rfl
theorem wdAt_none {ws : List Wo} {n : Nat} (h : ws.length ≤ n) : wdAt ws n = .none := by
  unfold wdAt
  rw [List.getElem?_eq_none (by rw [List.length_map]; exact h)]; rfl
section
variable {P : Program} {w : World} {K : PySem.W.Frag} {mg : Str → Option Value} {base : Heap}
def spLeads (K : PySem.W.Frag) : Sp := fun vs H Q _ => ∃ (p pl : V) (ws : List Wo) (n : Nat) (W : Wo), vs = [p, pl] ∧ Tp K H p (pgD ws) ∧ Tp K H pl (plcD n) ∧ ws[n]? = some W ∧ plainW W = true ∧ ∀ H' t o u z, Ex [] H H' → SqT K H' t [.ref o] → SqT K H' o [u, z] → Tp K H' z (plcD (n + 1)) → Q (.ref t) H'
theorem ok_leads {f f1 f2 f3 : Addr} {fd d1 d2 d3 : FuncData} {k : Nat} (F : Fun K "leads_of" "leads_of" s_leads f fd) (C_word_at : Cl P w K mg base k "word_at" ["program", "place"] (spWordAt K) f1 d1) (C_choices_of : Cl P w K mg base k "choices_of" ["word"] (spChoices K) f2 d2)
    (C_behind : Cl P w K mg base k "behind" ["program", "place"] (spBehind K) f3 d3) : FnOk P w K mg base CX0 (k + 1) f fd ["program", "place"] (spLeads K) := by
  refine F.ok sc_leads (fun vs H Q E h => ?_) (fun cdv A outer s H vs Q E hr h => ?_)
  · obtain ⟨p, pl, ws, n, W, rfl, _⟩ := h; rfl
  · obtain ⟨p, pl, ws, n, W, rfl, hp, hpl, hW, pW, q⟩ := h
    refine ⟨_, (pss_cons (ps_set (i := 2) sc_leads.nd rfl (.inl rfl) (pe_call C_word_at.g hr (by rfl) C_word_at.m C_word_at.k C_word_at.b .nil pass0 (pa_cons (pv 0) (pa_cons (pv 1) pa_nil))))
      (pss_cons (ps_if (PW.pt (pw_or (pt_cmpR op_isN (pv 2) pe_non (nomark _)) (pw_or1 (pt_cmpR op_in_seq (pe_ix ix_tup (pv 2) pe_int (fun _ _ => rfl)) (pe_tup (pa_cons pe_str (pa_cons pe_str pa_nil))) rfl)))) (pss_one ps_nv) pss_nil)
      (pss_cons (ps_if (pt_cmpR op_eq (pe_ix ix_tup (pv 2) pe_int (fun _ _ => rfl)) pe_str (nomark _)) (pss_one ps_nv) pss_nil)
      (pss_cons (ps_if (pt_cmpR op_eq (pe_ix ix_tup (pv 2) pe_int (fun _ _ => rfl)) pe_str (nomark _)) (pss_one ps_nv) pss_nil)
      (pss_cons (ps_if (pt_cmpR op_eq (pe_ix ix_tup (pv 2) pe_int (fun _ _ => rfl)) pe_str (nomark _)) (pss_one ps_nv) pss_nil)
      (pss_cons (ps_set (i := 3) sc_leads.nd rfl (.inl rfl) (pe_ifExp (pt_cmpR op_eq (pe_call C_choices_of.g hr (by rfl) C_choices_of.m C_choices_of.k C_choices_of.b .nil pass0 (pa_cons (pv 2) pa_nil)) pe_int (nomark _)) (pe_tup pa_nil) (pe_tup (pa_cons pe_int pa_nil))))
      (pss_one (ps_ret (pe_tup (pa_cons (pe_tup (pa_cons (pv 3) (pa_cons (pe_call C_behind.g hr (by rfl) C_behind.m C_behind.k C_behind.b .nil pass0 (pa_cons (pv 0) (pa_cons (pv 1) pa_nil))) pa_nil))) pa_nil)))))))))), ?_⟩
    refine ⟨p, rfl, pl, rfl, p, pl, ws, n, rfl, hp, hpl, fun u hu => ?_⟩
    rw [wdAt_some hW] at hu
    obtain ⟨a, r, rfl, hs, _⟩ := word_in hu
    have nk := plain_k pW
    have n1 : ¬ kW W = Str.ofString "fault" := fun z => nk (by rw [z]; decide +kernel)
    have n2 : ¬ kW W = Str.ofString "back" := fun z => nk (by rw [z]; decide +kernel)
    have n3 : ¬ kW W = Str.ofString "choose" := fun z => nk (by rw [z]; decide +kernel)
    have n4 : ¬ kW W = Str.ofString "loop" := fun z => nk (by rw [z]; decide +kernel)
    have n5 : ¬ kW W = Str.ofString "out" := fun z => nk (by rw [z]; decide +kernel)
    refine ⟨.ref a, rfl, rfl, _, rfl, itN (by simp) ⟨.ref a, rfl, a, _, 0, _, rfl, rfl, hs, at0, l2, fun T nT => ?_⟩⟩
    have xT : Ex [] H (upd H T (.tup ([Str.ofString "fault", Str.ofString "back"].map V.str))) := .new nT
    refine ⟨T, [Str.ofString "fault", Str.ofString "back"].map V.str, rfl, .inr (.of upd_same), rfl, strs_flat _, _, rfl, ?_⟩
    show if inV _ _ = true then _ else _
    rw [inV_strs, decide_eq_false (by simp [n1, n2]), if_neg (by decide)]
    have hs2 := xT.seqT hs
    refine ⟨.ref a, rfl, a, _, 0, _, rfl, rfl, hs2, at0, rfl, _, rfl, sN n3 ⟨.ref a, rfl, a, _, 0, _, rfl, rfl, hs2, at0, rfl, _, rfl, sN n4 ⟨.ref a, rfl, a, _, 0, _, rfl, rfl, hs2, at0, rfl, _, rfl, sN n5 ?_⟩⟩⟩
    have fin : ∀ (Z : Addr) (zs : List V) (H1 : Hp), Ex [] H H1 → spBehind K [p, pl] H1 (fun v H2 => 2 ≤ sizeLine ∧ ∀ o, H2 o = none → 1 ≤ sizeLine ∧ ∀ t, (upd H2 o (.tup [.ref Z, v])) t = none → Q (.ref t) (upd (upd H2 o (.tup [.ref Z, v])) t (.tup [.ref o]))) (E0 : XK) := fun Z zs H1 x1 => by
      refine ⟨p, pl, ws, n, rfl, hp.ex x1, hpl.ex x1, (List.getElem?_eq_some_iff.mp hW).1, fun H2 v x2 tv => ⟨l2, fun o no => ⟨l1, fun t nt => ?_⟩⟩⟩
      have xo : Ex [] H2 (upd H2 o (.tup [.ref Z, v])) := .new no
      have xt : Ex [] (upd H2 o (.tup [.ref Z, v])) (upd (upd H2 o (.tup [.ref Z, v])) t (.tup [.ref o])) := .new nt
      exact q _ t o (.ref Z) v ((x1.trans x2).trans (xo.trans xt)) (.of upd_same) (.of (xt.tup upd_same)) ((tv.ex xo).ex xt)
    refine ⟨.ref a, rfl, .ref a, W, rfl, hu.ex xT, rfl, _, rfl, ite2 (fun e => ?_) fun e => ?_⟩
    · refine ⟨l0, fun Z nZ => ⟨.ref Z, rfl, p, rfl, pl, rfl, ?_⟩⟩
      exact fin Z [] _ (xT.trans (.new nZ))
    · refine ⟨l1, fun Z nZ => ⟨.ref Z, rfl, p, rfl, pl, rfl, ?_⟩⟩
      exact fin Z [] _ (xT.trans (.new nZ))
end
end K10

set_option maxHeartbeats 4000000
namespace K10
open PySem PySem.Spec PyProof.Rows L2 Kk RZ
abbrev s_rinit : Stmt := inClass (topS 28) 0
abbrev s_word : Stmt := inClass (topS 28) 1
abbrev s_lacks : Stmt := inClass (topS 28) 2
abbrev s_next : Stmt := inClass (topS 28) 3
theorem sc_rinit : FnScope ["self", "program", "answers"] ["self", "program", "answers"] (defScope s_rinit) := ⟨rfl, rfl, rfl, by decide +kernel, rfl, by decide +kernel, by decide +kernel⟩
theorem sc_word : FnScope ["self"] ["self"] (defScope s_word) := ⟨rfl, rfl, rfl, by decide +kernel, rfl, by decide +kernel, by decide +kernel⟩
theorem sc_lacks : FnScope ["self"] ["self"] (defScope s_lacks) := ⟨rfl, rfl, rfl, by decide +kernel, rfl, by decide +kernel, by decide +kernel⟩
theorem sc_next : FnScope ["self", "choices", "answer"] ["self", "choices"] (defScope s_next) := ⟨rfl, rfl, rfl, by decide +kernel, rfl, by decide +kernel, by decide +kernel⟩
structure RnS where
  prg : V
  an : Addr
  wt : Nat
  st : Nat
  tl : Addr
  lf : Addr
  en : V
  fl : Addr
/-- a run -/
structure RnF (r : RnS) (fs : List (Str × V)) : Prop where
  prg : fs.lookup ("program" : Str) = some r.prg
  an : fs.lookup ("answers" : Str) = some (.ref r.an)
  wt : fs.lookup ("wanted" : Str) = some (.int r.wt)
  st : fs.lookup ("steps" : Str) = some (.int r.st)
  tl : fs.lookup ("told" : Str) = some (.ref r.tl)
  lf : fs.lookup ("left" : Str) = some (.ref r.lf)
  en : fs.lookup ("ending" : Str) = some r.en
  fl : fs.lookup ("frames" : Str) = some (.ref r.fl)
  m1 : fs.lookup ("word" : Str) = none
  m2 : fs.lookup ("lacks_answer" : Str) = none
  m3 : fs.lookup ("next_answer" : Str) = none
  m4 : fs.lookup ("leave" : Str) = none
  ln : fs.length ≤ 20
def RnH (CR : Addr) (H : Hp) (nw : Addr) (r : RnS) : Prop := ∃ dx fs, H nw = some (.ins CR dx fs) ∧ RnF r fs
theorem RnH.ex {CR : Addr} {H H' : Hp} {nw : Addr} {r : RnS} {xs : List Addr} (h : RnH CR H nw r) (e : Ex xs H H') (m : nw ∉ xs) : RnH CR H' nw r := by
  obtain ⟨dx, fs, h1, r⟩ := h
  exact ⟨dx, fs, e.a nw _ m h1 (fun _ z => by cases z), r⟩
structure TR (K : PySem.W.Frag) (mg : Str → Option Value) (CR : Addr) : Prop where
  cl : Cls K CR
  n0 : NoAttr K CR "program"
  n1 : NoAttr K CR "answers"
  n2 : NoAttr K CR "wanted"
  n3 : NoAttr K CR "steps"
  n4 : NoAttr K CR "told"
  n5 : NoAttr K CR "left"
  n6 : NoAttr K CR "ending"
  n7 : NoAttr K CR "frames"
  mgC : mg "Run" = some (.ref CR)
/-- a field put -/
theorem RnF.wt1 {r : RnS} {fs : List (Str × V)} (h : RnF r fs) (n : Nat) (hl : (putF "wanted" (.int n) fs).length ≤ 20) : RnF { r with wt := n } (putF "wanted" (.int n) fs) :=
  ⟨by rw [lookup_putF, if_neg (by decide +kernel)]; exact h.prg, by rw [lookup_putF, if_neg (by decide +kernel)]; exact h.an, by rw [lookup_putF, if_pos rfl], by rw [lookup_putF, if_neg (by decide +kernel)]; exact h.st, by rw [lookup_putF, if_neg (by decide +kernel)]; exact h.tl, by rw [lookup_putF, if_neg (by decide +kernel)]; exact h.lf,
    by rw [lookup_putF, if_neg (by decide +kernel)]; exact h.en, by rw [lookup_putF, if_neg (by decide +kernel)]; exact h.fl, by rw [lookup_putF, if_neg (by decide +kernel)]; exact h.m1, by rw [lookup_putF, if_neg (by decide +kernel)]; exact h.m2, by rw [lookup_putF, if_neg (by decide +kernel)]; exact h.m3, by rw [lookup_putF, if_neg (by decide +kernel)]; exact h.m4, hl⟩
theorem RnF.st1 {r : RnS} {fs : List (Str × V)} (h : RnF r fs) (n : Nat) (hl : (putF "steps" (.int n) fs).length ≤ 20) : RnF { r with st := n } (putF "steps" (.int n) fs) :=
  ⟨by rw [lookup_putF, if_neg (by decide +kernel)]; exact h.prg, by rw [lookup_putF, if_neg (by decide +kernel)]; exact h.an, by rw [lookup_putF, if_neg (by decide +kernel)]; exact h.wt, by rw [lookup_putF, if_pos rfl], by rw [lookup_putF, if_neg (by decide +kernel)]; exact h.tl, by rw [lookup_putF, if_neg (by decide +kernel)]; exact h.lf,
    by rw [lookup_putF, if_neg (by decide +kernel)]; exact h.en, by rw [lookup_putF, if_neg (by decide +kernel)]; exact h.fl, by rw [lookup_putF, if_neg (by decide +kernel)]; exact h.m1, by rw [lookup_putF, if_neg (by decide +kernel)]; exact h.m2, by rw [lookup_putF, if_neg (by decide +kernel)]; exact h.m3, by rw [lookup_putF, if_neg (by decide +kernel)]; exact h.m4, hl⟩
theorem RnF.en1 {r : RnS} {fs : List (Str × V)} (h : RnF r fs) (v : V) (hl : (putF "ending" v fs).length ≤ 20) : RnF { r with en := v } (putF "ending" v fs) :=
  ⟨by rw [lookup_putF, if_neg (by decide +kernel)]; exact h.prg, by rw [lookup_putF, if_neg (by decide +kernel)]; exact h.an, by rw [lookup_putF, if_neg (by decide +kernel)]; exact h.wt, by rw [lookup_putF, if_neg (by decide +kernel)]; exact h.st, by rw [lookup_putF, if_neg (by decide +kernel)]; exact h.tl, by rw [lookup_putF, if_neg (by decide +kernel)]; exact h.lf,
    by rw [lookup_putF, if_pos rfl], by rw [lookup_putF, if_neg (by decide +kernel)]; exact h.fl, by rw [lookup_putF, if_neg (by decide +kernel)]; exact h.m1, by rw [lookup_putF, if_neg (by decide +kernel)]; exact h.m2, by rw [lookup_putF, if_neg (by decide +kernel)]; exact h.m3, by rw [lookup_putF, if_neg (by decide +kernel)]; exact h.m4, hl⟩
section
variable {P : Program} {w : World} {K : PySem.W.Frag} {mg : Str → Option Value} {base : Heap}
def spRInit (K : PySem.W.Frag) (CF CR : Addr) : Sp := fun vs H Q _ => ∃ (p dx an : Addr) (prg : V), vs = [.ref p, prg, .ref an] ∧ H p = some (.ins CR dx []) ∧ ∀ (H' : Hp) (fr b tl lf fl : Addr) (pl : V), Ex [p] H H' → H fr = none → H b = none → H tl = none → H lf = none → H fl = none → RnH CR H' p ⟨prg, an, 0, 0, tl, lf, .non, fl⟩ → FrH CF H' fr b pl → Tp K H' pl (plcD 0) → H' b = some (.dK []) → H' tl = some (.lst []) → H' lf = some (.lst []) → H' fl = some (.lst [.ref fr]) → tl ≠ lf → tl ≠ fl → lf ≠ fl → Q .non H'
theorem putF_len {f : Str} {v : V} : ∀ {fs : List (Str × V)}, fs.lookup f ≠ none → (putF f v fs).length = fs.length
  | [], h => absurd rfl h
  | (g, x) :: r, h => by
    unfold putF
    by_cases e : g = f
    · rw [if_pos e]; rfl
    · rw [if_neg e, List.length_cons, List.length_cons, putF_len (fs := r) ?_]
      intro z
      refine h ?_
      rw [List.lookup_cons]
      have : (f == g) = false := by
        cases q : f == g with
        | false => rfl
        | true => exact absurd (eq_of_beq q).symm e
      rw [this]; exact z
theorem lenF (f : Str) (v : V) {fs : List (Str × V)} {n : Nat} (h : fs.length ≤ n) : (putF f v fs).length ≤ n + 1 := Nat.le_trans (length_putF f v fs) (by omega)
theorem ok_rinit {f CF CR fI f1 : Addr} {fd fdI d1 : FuncData} {k : Nat} (F : Fun K "__init__" "Run.__init__" s_rinit f fd) (T : TR K mg CR) (TFr : TF K mg CF) (MF : Mk K CF fI) (GI : FnOk P w K mg base CX0 k fI fdI ["self", "place"] (spFInit CF)) (bI : Binds K fdI ["self", "place"] [])
    (C_first : Cl P w K mg base (k + 1) "first_place" ["program", "name"] spFirst f1 d1) : FnOk P w K mg base CX0 (k + 2) f fd ["self", "program", "answers"] (spRInit K CF CR) := by
  refine F.ok sc_rinit (fun vs H Q E h => ?_) (fun cdv A outer s H vs Q E hr h => ?_)
  · obtain ⟨p, dx, an, prg, rfl, _⟩ := h; rfl
  · obtain ⟨p, dx, an, prg, rfl, hp, q⟩ := h
    refine ⟨_, (pss_cons (ps_fld (pv 0) (pv 1) rfl) (pss_cons (ps_fld (pv 0) (pv 2) rfl) (pss_cons (ps_fld (pv 0) pe_int rfl) (pss_cons (ps_fld (pv 0) pe_int rfl) (pss_cons (ps_fld (pv 0) (pe_lst pa_nil) rfl) (pss_cons (ps_fld (pv 0) (pe_lst pa_nil) rfl) (pss_cons (ps_fld (pv 0) pe_non rfl)
      (pss_one (ps_fld (pv 0) (pe_lst (pa_cons (pe_make MF GI hr (by rfl) TFr.mgC bI .nil pass0 (pa_cons (pe_call C_first.g hr (by rfl) C_first.m C_first.k C_first.b .nil pass0 (pa_cons (pv 1) (pa_cons pe_str pa_nil))) pa_nil)) pa_nil)) rfl))))))))), ?_⟩
    have put : ∀ {H1 : Hp} {fs fs' : List (Str × V)}, H1 p = some (.ins CR dx fs) → Ex [p] H1 (upd H1 p (.ins CR dx fs')) := fun h => .put h (fun _ z => by cases z) (by simp)
    have l0 : (([] : List (Str × V))).length ≤ 0 := Nat.le_refl _
    have l1 := lenF "program" prg l0
    have l2 := lenF "answers" (.ref an) l1
    have l3 := lenF "wanted" (.int 0) l2
    have l4 := lenF "steps" (.int 0) l3
    refine ⟨prg, rfl, .ref p, rfl, p, CR, dx, [], rfl, hp, T.cl, T.n0, (by show 0 < 1000; decide), ?_⟩
    have x1 := put (fs' := putF "program" prg []) hp
    refine ⟨.ref an, rfl, .ref p, rfl, p, CR, dx, _, rfl, upd_same, T.cl, T.n1, by omega, ?_⟩
    have x2 := x1.trans (put (fs' := putF "answers" (.ref an) (putF "program" prg [])) upd_same)
    refine ⟨.ref p, rfl, p, CR, dx, _, rfl, upd_same, T.cl, T.n2, by omega, ?_⟩
    have x3 := x2.trans (put (fs' := putF "wanted" (.int 0) (putF "answers" (.ref an) (putF "program" prg []))) upd_same)
    refine ⟨.ref p, rfl, p, CR, dx, _, rfl, upd_same, T.cl, T.n3, by omega, ?_⟩
    have x4 := x3.trans (put (fs' := putF "steps" (.int 0) (putF "wanted" (.int 0) (putF "answers" (.ref an) (putF "program" prg [])))) upd_same)
    generalize hfs4 : putF "steps" (.int 0) (putF "wanted" (.int 0) (putF "answers" (.ref an) (putF "program" prg []))) = fs4 at l4 x4
    have h4 : ∀ {H0 : Hp}, (upd H0 p (.ins CR dx fs4)) p = some (.ins CR dx fs4) := upd_same
    refine ⟨Nat.zero_le _, fun tl ntl => ?_⟩
    have h4' := h4 (H0 := upd (upd (upd H p (.ins CR dx (putF "program" prg []))) p (.ins CR dx (putF "answers" (.ref an) (putF "program" prg [])))) p (.ins CR dx (putF "wanted" (.int 0) (putF "answers" (.ref an) (putF "program" prg [])))))
    generalize upd (upd (upd (upd H p (.ins CR dx (putF "program" prg []))) p (.ins CR dx (putF "answers" (.ref an) (putF "program" prg [])))) p (.ins CR dx (putF "wanted" (.int 0) (putF "answers" (.ref an) (putF "program" prg []))))) p (.ins CR dx fs4) = H4 at x4 h4' ntl
    have ptl : p ≠ tl := ne_of_none h4' ntl
    have xt : Ex [p] H4 (upd H4 tl (.lst [])) := .new ntl
    have l5 := lenF "told" (.ref tl) l4
    refine ⟨.ref p, rfl, p, CR, dx, fs4, rfl, by rw [upd_ne ptl]; exact h4', T.cl, T.n4, by omega, ?_⟩
    have x5 := (x4.trans xt).trans (put (fs' := putF "told" (.ref tl) fs4) (by rw [upd_ne ptl]; exact h4'))
    have h5 : (upd (upd H4 tl (.lst [])) p (.ins CR dx (putF "told" (.ref tl) fs4))) p = some (.ins CR dx (putF "told" (.ref tl) fs4)) := upd_same
    have h5t : (upd (upd H4 tl (.lst [])) p (.ins CR dx (putF "told" (.ref tl) fs4))) tl = some (.lst []) := by rw [upd_ne ptl.symm, upd_same]
    have n5 : H tl = none := x4.f _ ntl
    generalize upd (upd H4 tl (.lst [])) p (.ins CR dx (putF "told" (.ref tl) fs4)) = H5 at x5 h5 h5t
    refine ⟨Nat.zero_le _, fun lf nlf => ?_⟩
    have plf : p ≠ lf := ne_of_none h5 nlf
    have tlf : tl ≠ lf := ne_of_none h5t nlf
    have xl : Ex [p] H5 (upd H5 lf (.lst [])) := .new nlf
    have l6 := lenF "left" (.ref lf) l5
    refine ⟨.ref p, rfl, p, CR, dx, _, rfl, by rw [upd_ne plf]; exact h5, T.cl, T.n5, by omega, ?_⟩
    have x6 := (x5.trans xl).trans (put (fs' := putF "left" (.ref lf) (putF "told" (.ref tl) fs4)) (by rw [upd_ne plf]; exact h5))
    refine ⟨.ref p, rfl, p, CR, dx, _, rfl, upd_same, T.cl, T.n6, by omega, ?_⟩
    have l7 := lenF "ending" V.non l6
    have x7 := x6.trans (put (fs' := putF "ending" .non (putF "left" (.ref lf) (putF "told" (.ref tl) fs4))) upd_same)
    have h7 : (upd (upd (upd H5 lf (.lst [])) p (.ins CR dx (putF "left" (.ref lf) (putF "told" (.ref tl) fs4)))) p (.ins CR dx (putF "ending" .non (putF "left" (.ref lf) (putF "told" (.ref tl) fs4))))) p = some (.ins CR dx (putF "ending" .non (putF "left" (.ref lf) (putF "told" (.ref tl) fs4)))) := upd_same
    have h7t : (upd (upd (upd H5 lf (.lst [])) p (.ins CR dx (putF "left" (.ref lf) (putF "told" (.ref tl) fs4)))) p (.ins CR dx (putF "ending" .non (putF "left" (.ref lf) (putF "told" (.ref tl) fs4))))) tl = some (.lst []) := by rw [upd_ne ptl.symm, upd_ne ptl.symm, upd_ne tlf]; exact h5t
    have h7l : (upd (upd (upd H5 lf (.lst [])) p (.ins CR dx (putF "left" (.ref lf) (putF "told" (.ref tl) fs4)))) p (.ins CR dx (putF "ending" .non (putF "left" (.ref lf) (putF "told" (.ref tl) fs4))))) lf = some (.lst []) := by rw [upd_ne plf.symm, upd_ne plf.symm, upd_same]
    have n7l : H lf = none := x5.f _ nlf
    generalize upd (upd (upd H5 lf (.lst [])) p (.ins CR dx (putF "left" (.ref lf) (putF "told" (.ref tl) fs4)))) p (.ins CR dx (putF "ending" .non (putF "left" (.ref lf) (putF "told" (.ref tl) fs4)))) = H7 at x7 h7 h7t h7l
    refine ⟨prg, rfl, prg, _, rfl, fun t nt x dx2 nx ndx nex => ?_⟩
    have ht7 : (upd H7 t (.tup [.str emp, .int 0])) t = some (.tup [.str emp, .int 0]) := upd_same
    have xt2 : Ex [p] H7 (upd H7 t (.tup [.str (Str.ofString ""), .int 0])) := .new nt
    have xd : Ex [p] (upd H7 t (.tup [.str (Str.ofString ""), .int 0])) (upd (upd H7 t (.tup [.str (Str.ofString ""), .int 0])) dx2 (.own x)) := .new ndx
    have nx2 : (upd (upd H7 t (.tup [.str (Str.ofString ""), .int 0])) dx2 (.own x)) x = none := by rw [upd_ne nex.symm]; exact nx
    have xx : Ex [p] (upd (upd H7 t (.tup [.str (Str.ofString ""), .int 0])) dx2 (.own x)) (upd (upd (upd H7 t (.tup [.str (Str.ofString ""), .int 0])) dx2 (.own x)) x (.ins CF dx2 [])) := .new nx2
    refine ⟨x, dx2, .ref t, rfl, upd_same, fun H8 b nb x8 hF8 hb8 => ⟨rfl, ?_⟩⟩
    have nx7 : H7 x = none := upd_free nx
    have px : p ≠ x := ne_of_none h7 nx7
    have tx : tl ≠ x := ne_of_none h7t nx7
    have x78 : Ex [p, x] H7 H8 := (((xt2.trans xd).trans xx).mono (by simp)).trans (x8.mono (by simp))
    have x78p : Ex [p] H7 H8 := Ex.own nx7 .refl (x78.mono (by simp))
    have h8 : H8 p = some (.ins CR dx (putF "ending" .non (putF "left" (.ref lf) (putF "told" (.ref tl) fs4)))) := x8.a p _ (by simpa using px) (by rw [upd_ne px]; exact (Ex.new ndx (xs := [])).a p _ (by simp) ((Ex.new nt (xs := [])).a p _ (by simp) h7 (fun _ z => by cases z)) (fun _ z => by cases z)) (fun _ z => by cases z)
    have h8t : H8 tl = some (.lst []) := x78p.lst h7t (by simpa using ptl.symm)
    have h8l : H8 lf = some (.lst []) := x78p.lst h7l (by simpa using plf.symm)
    have h8p : Tp K H8 (.ref t) (plcD 0) := plc_mk (.of (x8.tup (xx.tup (xd.tup ht7))))
    have nb7 : H7 b = none := upd_free (upd_free (upd_free nb))
    refine ⟨(by show 1 ≤ sizeLine; decide), fun fl nfl => ?_⟩
    have pfl : p ≠ fl := ne_of_none h8 nfl
    have xf : Ex [p] H8 (upd H8 fl (.lst [.ref x])) := .new nfl
    refine ⟨.ref p, rfl, p, CR, dx, _, rfl, by rw [upd_ne pfl]; exact h8, T.cl, T.n7, by omega, ?_⟩
    have x9 : Ex [p] (upd H8 fl (.lst [.ref x])) (upd (upd H8 fl (.lst [.ref x])) p (.ins CR dx (putF "frames" (.ref fl) (putF "ending" .non (putF "left" (.ref lf) (putF "told" (.ref tl) fs4)))))) := put (by rw [upd_ne pfl]; exact h8)
    have x89 := xf.trans x9
    have bp : b ≠ p := fun z => by rw [z, h7] at nb7; cases nb7
    have flp : fl ≠ p := pfl.symm
    have tlfl : tl ≠ fl := ne_of_none h8t nfl
    have lffl : lf ≠ fl := ne_of_none h8l nfl
    refine q _ x b tl lf fl (.ref t) ((x7.trans x78p).trans x89) (x7.f _ nx7) (x7.f _ nb7) n5 n7l (x7.f _ (x78p.f _ nfl)) ⟨dx, _, upd_same, ?_⟩ (hF8.ex x89 (by simpa using px.symm)) (h8p.ex x89) (x89.a b _ (by simpa using bp) hb8 (fun _ z => by cases z)) (x89.lst h8t (by simpa using ptl.symm)) (x89.lst h8l (by simpa using plf.symm)) (by rw [upd_ne flp, upd_same]) tlf tlfl lffl
    have l8 := lenF "frames" (.ref fl) l7
    have lkk : ∀ m : Str, (putF "frames" (.ref fl) (putF "ending" .non (putF "left" (.ref lf) (putF "told" (.ref tl) fs4)))).lookup m = if m = "frames" then some (.ref fl) else if m = "ending" then some .non else if m = "left" then some (.ref lf) else if m = "told" then some (.ref tl) else if m = "steps" then some (.int 0) else if m = "wanted" then some (.int 0) else if m = "answers" then some (.ref an) else if m = "program" then some prg else none := fun m => by
      rw [← hfs4]
      simp only [lookup_putF]
      rfl
    constructor
    · rw [lkk, if_neg (by decide +kernel), if_neg (by decide +kernel), if_neg (by decide +kernel), if_neg (by decide +kernel), if_neg (by decide +kernel), if_neg (by decide +kernel), if_neg (by decide +kernel), if_pos rfl]
    · rw [lkk, if_neg (by decide +kernel), if_neg (by decide +kernel), if_neg (by decide +kernel), if_neg (by decide +kernel), if_neg (by decide +kernel), if_neg (by decide +kernel), if_pos rfl]
    · rw [lkk, if_neg (by decide +kernel), if_neg (by decide +kernel), if_neg (by decide +kernel), if_neg (by decide +kernel), if_neg (by decide +kernel), if_pos rfl]; rfl
    · rw [lkk, if_neg (by decide +kernel), if_neg (by decide +kernel), if_neg (by decide +kernel), if_neg (by decide +kernel), if_pos rfl]; rfl
    · rw [lkk, if_neg (by decide +kernel), if_neg (by decide +kernel), if_neg (by decide +kernel), if_pos rfl]
    · rw [lkk, if_neg (by decide +kernel), if_neg (by decide +kernel), if_pos rfl]
    · rw [lkk, if_neg (by decide +kernel), if_pos rfl]
    · rw [lkk, if_pos rfl]
    · rw [lkk, if_neg (by decide +kernel), if_neg (by decide +kernel), if_neg (by decide +kernel), if_neg (by decide +kernel), if_neg (by decide +kernel), if_neg (by decide +kernel), if_neg (by decide +kernel), if_neg (by decide +kernel)]
    · rw [lkk, if_neg (by decide +kernel), if_neg (by decide +kernel), if_neg (by decide +kernel), if_neg (by decide +kernel), if_neg (by decide +kernel), if_neg (by decide +kernel), if_neg (by decide +kernel), if_neg (by decide +kernel)]
    · rw [lkk, if_neg (by decide +kernel), if_neg (by decide +kernel), if_neg (by decide +kernel), if_neg (by decide +kernel), if_neg (by decide +kernel), if_neg (by decide +kernel), if_neg (by decide +kernel), if_neg (by decide +kernel)]
    · rw [lkk, if_neg (by decide +kernel), if_neg (by decide +kernel), if_neg (by decide +kernel), if_neg (by decide +kernel), if_neg (by decide +kernel), if_neg (by decide +kernel), if_neg (by decide +kernel), if_neg (by decide +kernel)]
    · omega
/-- the word that is due -/
def spWord (K : PySem.W.Frag) (CF CR : Addr) : Sp := fun vs H Q _ => ∃ (nw fr b : Addr) (r : RnS) (pl : V) (fs0 : List V) (ws : List Wo) (n : Nat), vs = [.ref nw] ∧ RnH CR H nw r ∧ H r.fl = some (.lst (fs0 ++ [.ref fr])) ∧ FrH CF H fr b pl ∧ Tp K H r.prg (pgD ws) ∧ Tp K H pl (plcD n) ∧ ∀ u, Tp K H u (wdAt ws n) → Q u H
theorem ok_rword {f CF CR f1 : Addr} {fd d1 : FuncData} {k : Nat} (F : Fun K "word" "Run.word" s_word f fd) (T : TR K mg CR) (TFr : TF K mg CF) (C_word_at : Cl P w K mg base k "word_at" ["program", "place"] (spWordAt K) f1 d1) : FnOk P w K mg base CX0 (k + 1) f fd ["self"] (spWord K CF CR) := by
  refine F.ok sc_word (fun vs H Q E h => ?_) (fun cdv A outer s H vs Q E hr h => ?_)
  · obtain ⟨nw, fr, b, r, pl, fs0, ws, n, rfl, _⟩ := h; rfl
  · obtain ⟨nw, fr, b, r, pl, fs0, ws, n, rfl, ⟨dx, fs, h1, h2⟩, hfl, hF, hp, hpl, q⟩ := h
    refine ⟨_, pss_one (ps_ret (pe_call C_word_at.g hr (by rfl) C_word_at.m C_word_at.k C_word_at.b .nil pass0 (pa_cons (pe_fld (pv 0) rfl) (pa_cons (pe_fld (pe_ix ix_list (pe_fld (pv 0) rfl) (pe_un un_neg pe_int) (fun _ _ => rfl)) rfl) pa_nil)))), ?_⟩
    obtain ⟨dF, fF, g1, g2, g3, _⟩ := id hF
    exact ⟨.ref nw, rfl, nw, CR, dx, fs, r.prg, rfl, h1, T.cl, T.n0, h2.prg, .ref nw, rfl, nw, CR, dx, fs, .ref r.fl, rfl, h1, T.cl, T.n7, h2.fl, 1, rfl, r.fl, _, -1, .ref fr, rfl, rfl, .of hfl, atI_last _ _, fr, CF, dF, fF, pl, rfl, g1, TFr.cl, TFr.nP, g3, r.prg, pl, ws, n, rfl, hp, hpl, q⟩
/-- whether an answer lacks: never, where there are enough -/
def spLacks (K : PySem.W.Frag) (CF CR : Addr) : Sp := fun vs H Q _ => ∃ (nw fr b : Addr) (r : RnS) (pl : V) (fs0 : List V) (ws : List Wo) (n : Nat) (W : Wo) (xs : List V), vs = [.ref nw] ∧ RnH CR H nw r ∧ H r.fl = some (.lst (fs0 ++ [.ref fr])) ∧ FrH CF H fr b pl ∧ Tp K H r.prg (pgD ws) ∧ Tp K H pl (plcD n) ∧ ws[n]? = some W ∧ SqT K H r.an xs ∧ (0 < chW W → r.wt < xs.length) ∧ Q (.bl false) H
theorem ok_lacks {f CF CR f1 f2 : Addr} {fd d1 d2 : FuncData} {k : Nat} (F : Fun K "lacks_answer" "Run.lacks_answer" s_lacks f fd) (T : TR K mg CR) (TFr : TF K mg CF) (GW : FnOk P w K mg base CX0 k f1 d1 ["self"] (spWord K CF CR)) (mW : Meth K CR "word" f1) (bW : Binds K d1 ["self"] [])
    (C_choices_of : Cl P w K mg base k "choices_of" ["word"] (spChoices K) f2 d2) (m_len : mg "len" = none) : FnOk P w K mg base CX0 (k + 1) f fd ["self"] (spLacks K CF CR) := by
  refine F.ok sc_lacks (fun vs H Q E h => ?_) (fun cdv A outer s H vs Q E hr h => ?_)
  · obtain ⟨nw, fr, b, r, pl, fs0, ws, n, W, xs, rfl, _⟩ := h; rfl
  · obtain ⟨nw, fr, b, r, pl, fs0, ws, n, W, xs, rfl, hR, hfl, hF, hp, hpl, hW, hxs, hwt, q⟩ := h
    refine ⟨_, pss_one (ps_ret (pe_and (pe_cmpR op_gt (pe_call C_choices_of.g hr (by rfl) C_choices_of.m C_choices_of.k C_choices_of.b .nil pass0 (pa_cons (pe_meth0 (pv 0) T.cl mW GW hr bW .nil pass0) pa_nil)) pe_int (nomark _)) (pe_one (pe_cmpR op_eq (pe_fld (pv 0) rfl) (pe_callB call_len_seq (by rfl) m_len PySem.boot_len (pa_cons (pe_fld (pv 0) rfl) pa_nil)) (nomark _))))), ?_⟩
    obtain ⟨dx, fs, h1, h2⟩ := id hR
    refine ⟨.ref nw, rfl, nw, dx, fs, rfl, h1, h2.m1, nw, fr, b, r, pl, fs0, ws, n, rfl, hR, hfl, hF, hp, hpl, fun u hu => ?_⟩
    rw [wdAt_some hW] at hu
    refine ⟨u, W, rfl, hu, chW W, 0, rfl, rfl, _, rfl, ite2 (fun e => ?_) fun e => ?_⟩
    · have lt := hwt (of_decide_eq_true e)
      refine ⟨.ref nw, rfl, nw, CR, dx, fs, .int r.wt, rfl, h1, T.cl, T.n2, h2.wt, .ref nw, rfl, nw, CR, dx, fs, .ref r.an, rfl, h1, T.cl, T.n1, h2.an, r.an, xs, rfl, .inr hxs, rfl, ?_⟩
      have : decide (V.int (r.wt : Nat) = V.int (xs.length : Nat)) = false := decide_eq_false fun z => by
        have := V.int.inj z
        omega
      rw [this]; exact q
    · exact q
def spNext (K : PySem.W.Frag) (CR : Addr) : Sp := fun vs H Q _ => ∃ (nw : Addr) (r : RnS) (ch a : Int) (xs : List V), vs = [.ref nw, .int ch] ∧ RnH CR H nw r ∧ SqT K H r.an xs ∧ xs[r.wt]? = some (.int a) ∧ 0 ≤ a ∧ a < ch ∧ ∀ H', Ex [nw] H H' → RnH CR H' nw { r with wt := r.wt + 1 } → Q (.int a) H'
theorem ok_next {f CR f1 : Addr} {fd d1 : FuncData} {k : Nat} (F : Fun K "next_answer" "Run.next_answer" s_next f fd) (T : TR K mg CR) (C_whole : Cl P w K mg base k "is_whole" ["thing"] spWholeI f1 d1) (m_len : mg "len" = none) : FnOk P w K mg base CX0 (k + 1) f fd ["self", "choices"] (spNext K CR) := by
  refine F.ok sc_next (fun vs H Q E h => ?_) (fun cdv A outer s H vs Q E hr h => ?_)
  · obtain ⟨nw, r, ch, a, xs, rfl, _⟩ := h; rfl
  · obtain ⟨nw, r, ch, a, xs, rfl, ⟨dx, fs, h1, h2⟩, hs, hx, a0, a1, q⟩ := h
    refine ⟨_, (pss_cons (ps_if (pt_cmpR op_eq (pe_fld (pv 0) rfl) (pe_callB call_len_seq (by rfl) m_len PySem.boot_len (pa_cons (pe_fld (pv 0) rfl) pa_nil)) (nomark _)) (pss_one ps_nv) pss_nil)
      (pss_cons (ps_set (i := 2) sc_next.nd rfl (.inl rfl) (pe_ix ix_tup (pe_fld (pv 0) rfl) (pe_fld (pv 0) rfl) (fun _ _ => rfl)))
      (pss_cons (ps_if (PW.pt (pw_or (pt_not (pt_val (pe_call C_whole.g hr (by rfl) C_whole.m C_whole.k C_whole.b .nil pass0 (pa_cons (pv 2) pa_nil)))) (pw_or1 (pt_not (pt_chain op_le op_lt pe_int (pv 2) (pv 1)))))) (pss_one ps_nv) pss_nil)
      (pss_cons (ps_fldaug (pv 0) pe_int ip_add)
      (pss_one (ps_ret (pv 2))))))), ?_⟩
    have wl : r.wt < xs.length := (List.getElem?_eq_some_iff.mp hx).1
    refine ⟨.ref nw, rfl, nw, CR, dx, fs, .int r.wt, rfl, h1, T.cl, T.n2, h2.wt, .ref nw, rfl, nw, CR, dx, fs, .ref r.an, rfl, h1, T.cl, T.n1, h2.an, r.an, xs, rfl, .inr hs, rfl, _, rfl, ite2 (fun e => ?_) fun _ => ?_⟩
    · have := V.int.inj (of_decide_eq_true e)
      omega
    refine ⟨.ref nw, rfl, nw, CR, dx, fs, .ref r.an, rfl, h1, T.cl, T.n1, h2.an, .ref nw, rfl, nw, CR, dx, fs, .int r.wt, rfl, h1, T.cl, T.n2, h2.wt, r.an, xs, r.wt, .int a, rfl, rfl, hs, atI_nat hx, ?_⟩
    refine ⟨.int a, rfl, a, rfl, _, rfl, iteF ?_⟩
    refine ⟨.int a, rfl, 0, a, rfl, rfl, _, rfl, ?_⟩
    rw [decide_eq_true a0]
    refine iteT ⟨.int ch, rfl, a, ch, rfl, rfl, _, rfl, ?_⟩
    rw [decide_eq_true a1]
    refine iteF ?_
    have ln := h2.ln
    refine ⟨.ref nw, rfl, nw, CR, dx, fs, .int r.wt, rfl, h1, T.cl, T.n2, h2.wt, r.wt, 1, rfl, rfl, dx, fs, h1, by omega, .int a, rfl, ?_⟩
    exact q _ (.put h1 (fun _ z => by cases z) (by simp)) ⟨dx, _, upd_same, h2.wt1 (r.wt + 1) (by rw [putF_len (by rw [h2.wt]; simp)]; exact h2.ln)⟩
end
end K10

set_option maxHeartbeats 4000000
namespace Kk
open PySem PySem.Spec PyProof.Rows L2
theorem op_notInB {X : Cx} {K : PySem.W.Frag} (h : X.K = K) : OpR X (compareOp .NotIn) (rIn K true) := by subst h; exact op_notIn_seq
end Kk
namespace K10
open PySem PySem.Spec PyProof.Rows L2 Kk RZ
abbrev s_plain : Stmt := topS 31
abbrev s_back : Stmt := topS 33
abbrev s_ends : Stmt := topS 35
abbrev n_back : List Str := ["now", "inner", "results", "frame", "gets", "get", "result", "box"]
theorem sc_plain : FnScope ["now", "word", "answer", "frame", "leads"] ["now", "word", "answer"] (defScope s_plain) := ⟨rfl, rfl, rfl, by decide +kernel, rfl, by decide +kernel, by decide +kernel⟩
theorem sc_back : FnScope n_back ["now"] (defScope s_back) := ⟨rfl, rfl, rfl, by decide +kernel, rfl, by decide +kernel, by decide +kernel⟩
theorem sc_ends : FnScope ["now"] ["now"] (defScope s_ends) := ⟨rfl, rfl, rfl, by decide +kernel, rfl, by decide +kernel, by decide +kernel⟩
open Classical in
theorem srt_ex (zs : List Str) : ∃ ys : List Str, ys.Perm zs ∧ sortedS ys = true := by
  refine ⟨zs.mergeSort (fun a b => decide (leS a b)), List.mergeSort_perm _ _, sorted_pw ?_⟩
  have := List.pairwise_mergeSort (le := fun a b => decide (leS a b)) (fun a b c hab hbc => decide_eq_true (leS_trans (of_decide_eq_true hab) (of_decide_eq_true hbc)))
    (fun a b => by
      rcases List.le_total a.cps.toList b.cps.toList with z | z
      · rw [Bool.or_eq_true]; exact .inl (decide_eq_true z)
      · rw [Bool.or_eq_true]; exact .inr (decide_eq_true z)) zs
  exact this.imp fun z => of_decide_eq_true z
/-- what is held, told, left -/
structure Sm where
  f : Bq → Wv
  told : List Int
  left : List PyData
/-- a run on its way, in its one frame -/
structure StH (K : PySem.W.Frag) (CF CR : Addr) (H : Hp) (nw fr b : Addr) (r : RnS) (ws : List Wo) (xs : List V) (kd Ws : List Str) (n i : Nat) (m : Sm) : Prop where
  R : RnH CR H nw r
  en : r.en = .non
  fl : H r.fl = some (.lst [.ref fr])
  F : ∃ pl, FrH CF H fr b pl ∧ Tp K H pl (plcD i)
  D : Hd K H b kd Ws n m.f
  tl : H r.tl = some (.lst (m.told.map V.int))
  lf : ∃ ls, H r.lf = some (.lst ls) ∧ TpAll K H ls m.left
  pg : Tp K H r.prg (pgD ws)
  an : SqT K H r.an xs
  d1 : nw ≠ fr
  d2 : r.tl ≠ r.lf
  d3 : r.tl ≠ r.fl
  d4 : r.lf ≠ r.fl
abbrev adL (nw fr b : Addr) (r : RnS) : List Addr := [nw, fr, b, r.tl, r.lf, r.fl]
noncomputable def stepM (i : Nat) (W : Wo) (ans : Int) (m : Sm) : Sm := ⟨stF m.f ans W, m.told ++ tellW m.f W, m.left ++ leftW i m.f W⟩
/-- a run that has ended -/
structure EnH (K : PySem.W.Frag) (CR : Addr) (H : Hp) (nw : Addr) (r : RnS) (told : List Int) (left : List PyData) : Prop where
  R : RnH CR H nw r
  en : ∃ e, r.en = .ref e ∧ SqT K H e [.str (Str.ofString "ended")]
  tl : H r.tl = some (.lst (told.map V.int))
  lf : ∃ ls, H r.lf = some (.lst ls) ∧ TpAll K H ls left
/-- the boxes with a worth, rising -/
def NzL (f : Bq → Wv) (qs : List Str) : Prop := qs.Pairwise leS ∧ qs.Nodup ∧ ∀ q, q ∈ qs ↔ ¬ (f q).2 = []
noncomputable def nzL (f : Bq → Wv) : List Str := Classical.epsilon (NzL f)
theorem nzL_eq {f : Bq → Wv} {qs : List Str} (h : NzL f qs) : nzL f = qs := by
  have s : NzL f (nzL f) := Classical.epsilon_spec ⟨qs, h⟩
  exact srt_uniq _ _ s.1 h.1 s.2.1 h.2.1 fun x => by rw [s.2.2 x, h.2.2 x]
noncomputable def endL (n : Nat) (f : Bq → Wv) : List PyData := (nzL f).map (entD n f)
/-- all boxes there are, left -/
theorem leftB_all {n : Nat} {f : Bq → Wv} {bqs ys : List Str} (pm : ys.Perm bqs) (srt : sortedS ys = true) (nd : bqs.Nodup) (hz : ∀ q, ¬ q ∈ bqs → f q = (0, [])) : leftB n f bqs = endL n f := by
  unfold leftB endL
  rw [srtS_eq pm srt]
  congr 1
  refine (nzL_eq ⟨(pw_sorted srt).filter _, (pm.nodup_iff.mpr nd).filter _, fun q => ?_⟩).symm
  rw [List.mem_filter]
  constructor
  · intro z; exact of_decide_eq_true z.2
  · intro z
    refine ⟨?_, decide_eq_true z⟩
    rw [pm.mem_iff]
    refine Decidable.byContradiction fun nm => z ?_
    rw [hz q nm]
section
variable {P : Program} {w : World} {K : PySem.W.Frag} {mg : Str → Option Value} {base : Heap}
theorem FrH.place {CF : Addr} {H : Hp} {fr b : Addr} {pl z : V} {dx : Addr} {fs : List (Str × V)} (h1 : fs.lookup ("boxes" : Str) = some (.ref b) ∧ fs.lookup ("place" : Str) = some pl ∧ fs.lookup ("holds" : Str) = none ∧ fs.lookup ("held" : Str) = none ∧ fs.length ≤ 10) :
    FrH CF (upd H fr (.ins CF dx (putF "place" z fs))) fr b z := by
  obtain ⟨a1, a2, a3, a4, a5⟩ := h1
  refine ⟨dx, _, upd_same, ?_, ?_, ?_, ?_, ?_⟩
  · rw [lookup_putF, if_neg (by decide +kernel)]; exact a1
  · rw [lookup_putF, if_pos rfl]
  · rw [lookup_putF, if_neg (by decide +kernel)]; exact a3
  · rw [lookup_putF, if_neg (by decide +kernel)]; exact a4
  · rw [putF_len (by rw [a2]; simp)]; exact a5
def spPlain (K : PySem.W.Frag) (CF CR : Addr) : Sp := fun vs H Q _ => ∃ (nw fr b : Addr) (r : RnS) (ws : List Wo) (xs : List V) (kd Ws : List Str) (n i : Nat) (m : Sm) (W : Wo) (wv : V) (ans : Int), vs = [.ref nw, wv, .int ans] ∧ StH K CF CR H nw fr b r ws xs kd Ws n i m ∧ ws[i]? = some W ∧ Tp K H wv (wD W) ∧ plainW W = true ∧ okW kd Ws W ∧ n ≤ 900 ∧ Ws.length ≤ 20 ∧ m.told.length ≤ 1000 ∧ m.left.length ≤ 100000 ∧
  ∀ H', Ex (adL nw fr b r) H H' → StH K CF CR H' nw fr b r ws xs kd Ws (n + 1) (i + 1) (stepM i W ans m) → Q .non H'
theorem ok_plain {f CF CR f1 f2 : Addr} {fd d1 d2 : FuncData} {k : Nat} (F : Fun K "do_plain" "do_plain" s_plain f fd) (T : TR K mg CR) (TFr : TF K mg CF) (C_do : Cl P w K mg base k "do_boxes" ["now", "frame", "word", "answer"] (spDo K CF CR) f1 d1) (C_leads : Cl P w K mg base k "leads_of" ["program", "place"] (spLeads K) f2 d2) :
    FnOk P w K mg base CX0 (k + 1) f fd ["now", "word", "answer"] (spPlain K CF CR) := by
  refine F.ok sc_plain (fun vs H Q E h => ?_) (fun cdv A outer s H vs Q E hr h => ?_)
  · obtain ⟨nw, fr, b, r, ws, xs, kd, Ws, n, i, m, W, wv, ans, rfl, _⟩ := h; rfl
  · obtain ⟨nw, fr, b, r, ws, xs, kd, Ws, n, i, m, W, wv, ans, rfl, S, hW, tw, pW, okw, hn, hWs, lt, ll, q⟩ := h
    refine ⟨_, (pss_cons (ps_set (i := 3) sc_plain.nd rfl (.inl rfl) (pe_ix ix_list (pe_fld (pv 0) rfl) (pe_un un_neg pe_int) (fun _ _ => rfl)))
      (pss_cons (ps_expr (pe_call C_do.g hr (by rfl) C_do.m C_do.k C_do.b .nil pass0 (pa_cons (pv 0) (pa_cons (pv 3) (pa_cons (pv 1) (pa_cons (pv 2) pa_nil))))))
      (pss_cons (ps_set (i := 4) sc_plain.nd rfl (.inl rfl) (pe_call C_leads.g hr (by rfl) C_leads.m C_leads.k C_leads.b .nil pass0 (pa_cons (pe_fld (pv 0) rfl) (pa_cons (pe_fld (pv 3) rfl) pa_nil))))
      (pss_one (ps_fld (pv 3) (pe_ifExp (pt_cmpR op_eq (pe_ix ix_tup (pv 1) pe_int (fun _ _ => rfl)) pe_str (nomark _)) pe_nv (pe_ix ix_tup (pe_ix ix_tup (pv 4) pe_int (fun _ _ => rfl)) pe_int (fun _ _ => rfl))) rfl))))), ?_⟩
    obtain ⟨dx, fs, h1, h2⟩ := id S.R
    obtain ⟨pl, hF, tpl⟩ := S.F
    obtain ⟨ls, hlf, tls⟩ := S.lf
    obtain ⟨dF, fF, g1, g2, g3, g4, g5, g6⟩ := id hF
    obtain ⟨kvs, k1, _⟩ := id S.D
    refine ⟨.ref nw, rfl, nw, CR, dx, fs, .ref r.fl, rfl, h1, T.cl, T.n7, h2.fl, 1, rfl, r.fl, _, -1, .ref fr, rfl, rfl, .of S.fl, rfl, ?_⟩
    refine ⟨.ref nw, rfl, .ref fr, rfl, wv, rfl, .int ans, rfl, nw, fr, b, r.tl, r.lf, pl, wv, ans, W, kd, Ws, n, i, m.f, m.told, ls, m.left, rfl, ⟨dx, fs, h1, h2.tl, h2.lf, h2.m4⟩, S.tl, lt, hlf, tls, ll, S.d2, tw, okw, hF, tpl, S.D, hn, hWs, fun H1 ls1 x1 hD1 ht1 hl1 tl1 => ?_⟩
    have nb : nw ≠ b := ne_of h1 k1 (by intro z; cases z)
    have ntl : nw ≠ r.tl := ne_of h1 S.tl (by intro z; cases z)
    have nlf : nw ≠ r.lf := ne_of h1 hlf (by intro z; cases z)
    have nfl : nw ≠ r.fl := ne_of h1 S.fl (by intro z; cases z)
    have fb : fr ≠ b := ne_of g1 k1 (by intro z; cases z)
    have ftl : fr ≠ r.tl := ne_of g1 S.tl (by intro z; cases z)
    have flf : fr ≠ r.lf := ne_of g1 hlf (by intro z; cases z)
    have ffl : fr ≠ r.fl := ne_of g1 S.fl (by intro z; cases z)
    have bfl : r.fl ≠ b := ne_of S.fl k1 (by intro z; cases z)
    have hR1 : RnH CR H1 nw r := S.R.ex x1 (by simp [nb, ntl, nlf])
    have hF1 : FrH CF H1 fr b pl := hF.ex x1 (by simp [fb, ftl, flf])
    have hfl1 : H1 r.fl = some (.lst [.ref fr]) := x1.lst S.fl (by simp [bfl, S.d3.symm, S.d4.symm])
    obtain ⟨dx1, fs1, h11, h12⟩ := id hR1
    obtain ⟨dF1, fF1, g11, g12⟩ := id hF1
    refine ⟨.ref nw, rfl, nw, CR, dx1, fs1, r.prg, rfl, h11, T.cl, T.n0, h12.prg, .ref fr, rfl, fr, CF, dF1, fF1, pl, rfl, g11, TFr.cl, TFr.nP, g12.2.1, r.prg, pl, ws, i, W, rfl, S.pg.ex x1, tpl.ex x1, hW, pW, fun H2 t o u z x2 ht ho tz => ?_⟩
    obtain ⟨a, r0, rfl, hs, _⟩ := word_in tw
    have hs2 := x2.seqT (x1.seqT hs)
    have n3 : ¬ kW W = Str.ofString "choose" := fun z => plain_k pW (by rw [z]; decide +kernel)
    refine ⟨.ref a, rfl, a, _, 0, _, rfl, rfl, hs2, at0, rfl, _, rfl, sN n3 ?_⟩
    have hF2 := hF1.ex x2 (by simp)
    obtain ⟨dF2, fF2, g21, g22⟩ := id hF2
    refine ⟨.ref t, rfl, t, _, 0, .ref o, rfl, rfl, ht, at0, o, _, 1, z, rfl, rfl, ho, at1, .ref fr, rfl, fr, CF, dF2, fF2, rfl, g21, TFr.cl, TFr.nP, by have := g22.2.2.2.2; omega, ?_⟩
    have x3 : Ex [fr] H2 (upd H2 fr (.ins CF dF2 (putF "place" z fF2))) := .put g21 (fun _ z => by cases z) (by simp)
    have x12 : Ex [b, r.tl, r.lf] H H2 := x1.trans (x2.mono (by simp))
    have x13 : Ex (adL nw fr b r) H (upd H2 fr (.ins CF dF2 (putF "place" z fF2))) := (x12.mono (by simp)).trans (x3.mono (by simp))
    have x23 : Ex [fr] H1 (upd H2 fr (.ins CF dF2 (putF "place" z fF2))) := (x2.mono (by simp)).trans x3
    refine q _ x13 ⟨hR1.ex x23 (by simpa using S.d1), S.en, x23.lst hfl1 (by simpa using ffl.symm), ⟨z, FrH.place g22, tz.ex x3⟩, hD1.ex x23 (by simpa using fb.symm), x23.lst ht1 (by simpa using ftl.symm), ⟨ls1, x23.lst hl1 (by simpa using flf.symm), tl1.ex x23⟩, S.pg.ex x13, x13.seqT S.an, S.d1, S.d2, S.d3, S.d4⟩
def spBack (K : PySem.W.Frag) (CF CR : Addr) : Sp := fun vs H Q _ => ∃ (nw fr b : Addr) (r : RnS) (ws : List Wo) (xs : List V) (kd Ws : List Str) (n i : Nat) (m : Sm), vs = [.ref nw] ∧ StH K CF CR H nw fr b r ws xs kd Ws n i m ∧ n < 64 ∧ m.left.length ≤ 100000 ∧
  ∀ H' e, Ex (adL nw fr b r) H H' → EnH K CR H' nw { r with en := e } m.told (m.left ++ endL i m.f) → Q .non H'
theorem ok_back {f CF CR f1 fL : Addr} {fd d1 fdL : FuncData} {k : Nat} (F : Fun K "do_back" "do_back" s_back f fd) (T : TR K mg CR) (TFr : TF K mg CF) (C_head : Cl P w K mg base k "head_of" ["program", "name"] spHead f1 d1)
    (GL : FnOk P w K mg base CX0 k fL fdL ["self", "frame", "boxes"] (spLeave K CF CR)) (mL : Meth K CR "leave" fL) (bL : Binds K fdL ["self", "frame", "boxes"] []) (m_list : mg "list" = none) (m_len : mg "len" = none) :
    FnOk P w K mg base CX0 (k + 1) f fd ["now"] (spBack K CF CR) := by
  refine F.ok sc_back (fun vs H Q E h => ?_) (fun cdv A outer s H vs Q E hr h => ?_)
  · obtain ⟨nw, fr, b, r, ws, xs, kd, Ws, n, i, m, rfl, _⟩ := h; rfl
  · obtain ⟨nw, fr, b, r, ws, xs, kd, Ws, n, i, m, rfl, S, hn, ll, q⟩ := h
    refine ⟨_, (pss_cons (ps_set (i := 1) sc_back.nd rfl (.inl rfl) (pe_bm0 PySem.F.plainAttrs_list PySem.F.slot_list_pop PySem.F.type_list_pop mt_pop (pe_fld (pv 0) rfl)))
      (pss_cons (ps_set (i := 2) sc_back.nd rfl (.inr rfl) (pe_ix ix_tup (pe_call C_head.g hr (by rfl) C_head.m C_head.k C_head.b .nil pass0 (pa_cons (pe_fld (pv 0) rfl) (pa_cons (pe_ix ix_tup (pe_fld (pv 1) rfl) pe_int (fun _ _ => rfl)) pa_nil))) pe_int (fun _ _ => rfl)))
      (pss_cons (ps_expr (pe_meth (pv 0) T.cl mL GL hr bL .nil pass0 (pa_cons (pv 1) (pa_cons (pe_lc (own := [("box", 7)]) (g := gName 7) rfl sc_back.nd (pi_list (pe_callTy (call_list_dK rfl) (by rfl) m_list (by decide +kernel) (pa_cons (pe_fld (pv 1) rfl) pa_nil))) (blkOk_by (N := n_back) (sc := defScope s_back) (by decide +kernel)) (fun _ _ _ _ _ => pg_name (i := 7) sc_back.nd rfl (Or.inl rfl))
          (fun _ _ _ _ _ => pts_one (pt_cmpR (op_notInB (K := K) rfl) (pv 7) (pv 2) rfl)) (fun _ _ _ _ _ => pv 7)) pa_nil))))
      (pss_cons (ps_if (pt_cmpR op_eq (pe_callB call_len_seq (by rfl) m_len PySem.boot_len (pa_cons (pe_fld (pv 0) rfl) pa_nil)) pe_int (nomark _)) (pss_cons (ps_fld (pv 0) (pe_tup (pa_cons pe_str pa_nil)) rfl) (pss_one ps_retN)) pss_nil)
      (pss_cons ps_nv (pss_cons ps_nv (pss_cons ps_nv (pss_one ps_nv)))))))), ?_⟩
    obtain ⟨dx, fs, h1, h2⟩ := id S.R
    obtain ⟨pl, hF, tpl⟩ := S.F
    obtain ⟨ls, hlf, tls⟩ := S.lf
    obtain ⟨dF, fF, g1, g2, g3, g4, g5, g6⟩ := id hF
    obtain ⟨kvs, k1, k2, k3, k4, k5, k6, k7⟩ := id S.D
    obtain ⟨bqs, eb, ev, hbk⟩ := keys_str k4
    have lb : bqs.length ≤ n := by
      have := congrArg List.length eb
      rw [List.length_map, List.length_map] at this
      omega
    have ndb : bqs.Nodup := by
      rw [eb] at k3
      exact List.Pairwise.of_map qK (fun a b h e => h (by rw [e])) k3
    have hz : ∀ q, ¬ q ∈ bqs → m.f q = (0, []) := fun q nm => by
      refine k6 q ?_
      unfold valV
      have : kvs.find? (fun kv => decide (kv.1 = qK q)) = none := by
        rw [List.find?_eq_none]
        intro p hp e
        have mk : qK q ∈ kvs.map (·.1) := List.mem_map.mpr ⟨p, hp, of_decide_eq_true e⟩
        rw [eb] at mk
        obtain ⟨r', h1, h2⟩ := List.mem_map.mp mk
        exact nm (by rw [← qK_inj h2]; exact h1)
      rw [this]; rfl
    have nb : nw ≠ b := ne_of h1 k1 (by intro z; cases z)
    have ntl : nw ≠ r.tl := ne_of h1 S.tl (by intro z; cases z)
    have nlf : nw ≠ r.lf := ne_of h1 hlf (by intro z; cases z)
    have nfl : nw ≠ r.fl := ne_of h1 S.fl (by intro z; cases z)
    have fb : fr ≠ b := ne_of g1 k1 (by intro z; cases z)
    have flf : fr ≠ r.lf := ne_of g1 hlf (by intro z; cases z)
    have ffl : fr ≠ r.fl := ne_of g1 S.fl (by intro z; cases z)
    have bfl : b ≠ r.fl := ne_of k1 S.fl (by intro z; cases z)
    have blf : b ≠ r.lf := ne_of k1 hlf (by intro z; cases z)
    refine ⟨.ref nw, rfl, nw, CR, dx, fs, .ref r.fl, rfl, h1, T.cl, T.n7, h2.fl, .inl ⟨rfl, _, .of S.fl⟩, r.fl, _, .ref fr, rfl, rfl, S.fl, rfl, ?_⟩
    have x1 : Ex [r.fl] H (upd H r.fl (.lst [V.ref fr].dropLast)) := .put S.fl nt_lst (by simp)
    have hfl1 : (upd H r.fl (.lst [V.ref fr].dropLast)) r.fl = some (.lst []) := upd_same
    generalize upd H r.fl (.lst [V.ref fr].dropLast) = H1 at x1 hfl1 ⊢
    have hR1 : RnH CR H1 nw r := S.R.ex x1 (by simpa using nfl)
    have hF1 : FrH CF H1 fr b pl := hF.ex x1 (by simpa using ffl)
    obtain ⟨dx1, fs1, h11, h12⟩ := id hR1
    obtain ⟨dF1, fF1, g11, g12⟩ := id hF1
    obtain ⟨pa, rfl, hA⟩ := plc_in (tpl.ex x1)
    refine ⟨.ref nw, rfl, nw, CR, dx1, fs1, r.prg, rfl, h11, T.cl, T.n0, h12.prg, .ref fr, rfl, fr, CF, dF1, fF1, .ref pa, rfl, g11, TFr.cl, TFr.nP, g12.2.1, pa, _, 0, _, rfl, rfl, hA, at0, r.prg, rfl, fun H2 t ta tb x2 ht htb => ?_⟩
    refine ⟨t, _, 1, .ref tb, rfl, rfl, .of ht, at1, ?_⟩
    have hR2 := hR1.ex x2 (by simp)
    have hF2 := hF1.ex x2 (by simp)
    obtain ⟨dx2, fs2, h21, h22⟩ := id hR2
    obtain ⟨dF2, fF2, g21, g22⟩ := id hF2
    have x12 : Ex [r.fl] H H2 := x1.trans (x2.mono (by simp))
    have k12 : H2 b = some (.dK kvs) := x12.a b _ (by simpa using bfl) k1 (fun _ z => by cases z)
    refine ⟨.ref nw, rfl, nw, dx2, fs2, rfl, h21, h22.m4, .ref fr, rfl, .ref fr, rfl, fr, CF, dF2, fF2, .ref b, rfl, g21, TFr.cl, TFr.nB, g22.1, b, kvs, rfl, k12, fun L nL => ?_⟩
    rw [ev]
    have xL : Ex [] H2 (upd H2 L (.lst (bqs.map V.str))) := .new nL
    have hL3 : (upd H2 L (.lst (bqs.map V.str))) L = some (.lst (bqs.map V.str)) := upd_same
    generalize upd H2 L (.lst (bqs.map V.str)) = H3 at xL hL3
    refine ⟨L, rfl, ⟨_, .of hL3⟩, fun D nD => ?_⟩
    have LD : L ≠ D := fun z => by rw [← z, hL3] at nD; cases nD
    have nD2 : H2 D = none := xL.f _ nD
    refine lc_list (a := L) (xs := bqs.map V.str) (fun i H4 => H4 D = some (.lst ((bqs.take i).map V.str)) ∧ H4 L = some (.lst (bqs.map V.str)) ∧ Ex [D] H3 H4) ?_ ?_ ?_ ?_
    · exact ⟨upd_same, by rw [upd_ne LD]; exact hL3, .new nD⟩
    · rintro i H4 _ ⟨_, h, _⟩
      exact .of h
    · rintro i x H4 hx ⟨hD4, hL4, x4⟩
      rw [List.getElem?_map] at hx
      cases hbi : bqs[i]? with
      | none => rw [hbi] at hx; cases hx
      | some bq =>
        rw [hbi] at hx
        cases hx
        refine ⟨rfl, .str bq, rfl, .ref tb, rfl, tb, [], rfl, .inr (.of (x4.tup (xL.tup htb))), rfl, rfl, _, rfl, ?_⟩
        show if (!inV (V.str bq) []) = true then _ else _
        rw [if_pos (show (!inV (V.str bq) []) = true from rfl)]
        refine ⟨.str bq, rfl, _, hD4, ?_, ?_, ?_, ?_⟩
        · rw [List.length_map, List.length_take, sizeLine_eq]; omega
        · rw [upd_same, List.take_add_one, hbi]
          show some (HO.lst ((bqs.take i).map V.str ++ [.str bq])) = some (.lst ((bqs.take i ++ [bq]).map V.str))
          rw [List.map_append]; rfl
        · rw [upd_ne LD]; exact hL4
        · exact x4.trans (.put hD4 nt_lst (by simp))
    · rintro H4 ⟨hD4, hL4, x4⟩
      rw [List.length_map, List.take_length] at hD4
      have x24 : Ex [] H2 H4 := Ex.own nD2 xL x4
      have x04 : Ex [r.fl] H H4 := x12.trans (x24.mono (by simp))
      have hR4 := hR2.ex x24 (by simp)
      have hF4 := hF2.ex x24 (by simp)
      obtain ⟨dx4, fs4, h41, h42⟩ := id hR4
      refine ⟨nw, fr, b, r.lf, D, .ref pa, bqs, kd, Ws, n, i, m.f, ls, m.left, rfl, ⟨dx4, fs4, h41, h42.lf⟩, x04.lst hlf (by simpa using S.d4), tls.ex x04, ll, .inr (.of hD4), by omega, hF4, tpl.ex x04, S.D.ex x04 (by simpa using bfl), fun H5 ls5 x5 hl5 tl5 => ?_⟩
      have hR5 := hR4.ex x5 (by simpa using nlf)
      obtain ⟨dx5, fs5, h51, h52⟩ := id hR5
      have hfl5 : H5 r.fl = some (.lst []) := x5.lst (x24.lst (x2.lst hfl1)) (by simpa using S.d4.symm)
      refine ⟨.ref nw, rfl, nw, CR, dx5, fs5, .ref r.fl, rfl, h51, T.cl, T.n7, h52.fl, r.fl, [], rfl, .inl (.of hfl5), rfl, _, rfl, itD rfl ?_⟩
      refine ⟨l1, fun e ne => ⟨.ref nw, rfl, nw, CR, dx5, fs5, rfl, ?_, T.cl, T.n6, by have := h52.ln; omega, ?_⟩⟩
      · exact (Ex.new ne (xs := [])).a nw _ (by simp) h51 (fun _ z => by cases z)
      have xe : Ex [] H5 (upd H5 e (.tup [.str (Str.ofString "ended")])) := .new ne
      have h5e : (upd H5 e (.tup [.str (Str.ofString "ended")])) nw = some (.ins CR dx5 fs5) := xe.a nw _ (by simp) h51 (fun _ z => by cases z)
      have x6 : Ex [nw] (upd H5 e (.tup [.str (Str.ofString "ended")])) (upd (upd H5 e (.tup [.str (Str.ofString "ended")])) nw (.ins CR dx5 (putF "ending" (.ref e) fs5))) := .put h5e (fun _ z => by cases z) (by simp)
      have x56 := (xe.mono (ys := [nw]) (by simp)).trans x6
      have x05 : Ex [r.fl, r.lf] H H5 := (x04.mono (by simp)).trans (x5.mono (by simp))
      refine q _ (.ref e) ((x05.mono (by simp)).trans (x56.mono (by simp))) ⟨⟨dx5, _, upd_same, h52.en1 (.ref e) (by rw [putF_len (by rw [h52.en]; simp)]; exact h52.ln)⟩, ⟨e, rfl, .of (x6.tup upd_same)⟩, ?_, ⟨ls5, x56.lst hl5 (by simpa using nlf.symm), ?_⟩⟩
      · exact x56.lst (x05.lst S.tl (by simp [S.d3, S.d2])) (by simpa using ntl.symm)
      · obtain ⟨ys, pm, srt⟩ : ∃ ys : List Str, ys.Perm bqs ∧ sortedS ys = true := by
          exact srt_ex bqs
        rw [← leftB_all pm srt ndb hz]
        exact tl5.ex x56
end
end K10

set_option maxHeartbeats 4000000
namespace K10
open PySem PySem.Spec PyProof.Rows L2 Kk RZ
abbrev s_step : Stmt := topS 36
abbrev s_run : Stmt := topS 37
theorem sc_step : FnScope ["now", "word", "choices", "answer"] ["now"] (defScope s_step) := ⟨rfl, rfl, rfl, by decide +kernel, rfl, by decide +kernel, by decide +kernel⟩
theorem sc_run : FnScope ["program", "answers", "most", "now", "done", "frame"] ["program", "answers", "most"] (defScope s_run) := ⟨rfl, rfl, rfl, by decide +kernel, rfl, by decide +kernel, by decide +kernel⟩
theorem StH.ex {K : PySem.W.Frag} {CF CR : Addr} {H H' : Hp} {nw fr b : Addr} {r : RnS} {ws : List Wo} {xs : List V} {kd Ws : List Str} {n i : Nat} {m : Sm} (S : StH K CF CR H nw fr b r ws xs kd Ws n i m) (e : Ex [] H H') : StH K CF CR H' nw fr b r ws xs kd Ws n i m := by
  obtain ⟨pl, h1, h2⟩ := S.F
  obtain ⟨ls, h3, h4⟩ := S.lf
  exact ⟨S.R.ex e (by simp), S.en, e.lst S.fl, ⟨pl, h1.ex e (by simp), h2.ex e⟩, S.D.ex e (by simp), e.lst S.tl, ⟨ls, e.lst h3, h4.ex e⟩, S.pg.ex e, e.seqT S.an, S.d1, S.d2, S.d3, S.d4⟩
theorem EnH.ex {K : PySem.W.Frag} {CR : Addr} {H H' : Hp} {nw : Addr} {r : RnS} {told : List Int} {left : List PyData} (S : EnH K CR H nw r told left) (e : Ex [] H H') : EnH K CR H' nw r told left := by
  obtain ⟨en, h1, h2⟩ := S.en
  obtain ⟨ls, h3, h4⟩ := S.lf
  exact ⟨S.R.ex e (by simp), ⟨en, h1, e.seqT h2⟩, e.lst S.tl, ⟨ls, e.lst h3, h4.ex e⟩⟩
theorem pt_nv {X : Cx} {e : Expr} : PT X e (fun _ _ _ => False) := ⟨fun _ _ _ _ _ _ q => q.elim⟩
section
variable {P : Program} {w : World} {K : PySem.W.Frag} {mg : Str → Option Value} {base : Heap}
/-- what is due at ends: within the row nothing; at its end it ends -/
def spEnds (K : PySem.W.Frag) (CF CR : Addr) : Sp := fun vs H Q _ => ∃ (nw fr b : Addr) (r : RnS) (ws : List Wo) (xs : List V) (kd Ws : List Str) (n i : Nat) (m : Sm), vs = [.ref nw] ∧ StH K CF CR H nw fr b r ws xs kd Ws n i m ∧ n < 64 ∧ m.left.length ≤ 100000 ∧ i ≤ ws.length ∧
  (i < ws.length → Q .non H) ∧ (i = ws.length → ∀ H' e, Ex (adL nw fr b r) H H' → EnH K CR H' nw { r with en := e } m.told (m.left ++ endL i m.f) → Q .non H')
theorem ok_ends {f CF CR f1 f2 : Addr} {fd d1 d2 : FuncData} {k : Nat} (F : Fun K "do_ends" "do_ends" s_ends f fd) (T : TR K mg CR) (GW : FnOk P w K mg base CX0 k f1 d1 ["self"] (spWord K CF CR)) (mW : Meth K CR "word" f1) (bW : Binds K d1 ["self"] [])
    (C_back : Cl P w K mg base k "do_back" ["now"] (spBack K CF CR) f2 d2) : FnOk P w K mg base CX0 (k + 1) f fd ["now"] (spEnds K CF CR) := by
  refine F.ok sc_ends (fun vs H Q E h => ?_) (fun cdv A outer s H vs Q E hr h => ?_)
  · obtain ⟨nw, fr, b, r, ws, xs, kd, Ws, n, i, m, rfl, _⟩ := h; rfl
  · obtain ⟨nw, fr, b, r, ws, xs, kd, Ws, n, i, m, rfl, S, hn, ll, hi, q1, q2⟩ := h
    refine ⟨_, pss_one (ps_while PassesOwn.never (PW.pt (pw_and (pt_cmpR op_isN (pe_fld (pv 0) rfl) pe_non (nomark _)) (pw_and1 (pt_cmpR op_isN (pe_meth0 (pv 0) T.cl mW GW hr bW .nil pass0) pe_non (nomark _))))) (pss_one (ps_expr (pe_call C_back.g hr (by rfl) C_back.m C_back.k C_back.b .nil pass0 (pa_cons (pv 0) pa_nil))))), ?_⟩
    refine ⟨fun M σ H2 => σ = [some (.ref nw)] ∧ ((M = 1 ∧ H = H2) ∨ (M = 0 ∧ i = ws.length ∧ ∃ e, Ex (adL nw fr b r) H H2 ∧ EnH K CR H2 nw { r with en := e } m.told (m.left ++ endL i m.f))), ⟨1, rfl, .inl ⟨rfl, rfl⟩⟩, ?_⟩
    rintro M σ H2 ⟨rfl, ⟨rfl, rfl⟩ | ⟨rfl, ei, e, x2, E2⟩⟩
    · obtain ⟨dx, fs, h1, h2⟩ := id S.R
      obtain ⟨pl, hF, tpl⟩ := S.F
      have en := h2.en
      rw [S.en] at en
      refine ⟨.ref nw, rfl, nw, CR, dx, fs, .non, rfl, h1, T.cl, T.n6, en, rfl, _, rfl, itD rfl ?_⟩
      refine ⟨.ref nw, rfl, nw, dx, fs, rfl, h1, h2.m1, nw, fr, b, r, pl, [], ws, i, rfl, S.R, S.fl, hF, S.pg, tpl, fun u hu => ?_⟩
      refine ⟨rfl, _, rfl, ?_⟩
      rcases Nat.lt_or_ge i ws.length with li | li
      · have hw : ws[i]? = some ws[i] := List.getElem?_eq_getElem li
        rw [wdAt_some hw] at hu
        obtain ⟨a, r0, rfl, _⟩ := word_in hu
        exact itN (by simp) (q1 li)
      · have ei : i = ws.length := Nat.le_antisymm hi li
        rw [wdAt_none (by omega)] at hu
        cases hu
        refine itD rfl ⟨fun σ' H' => ∃ m', m' < 1 ∧ σ' = [some (.ref nw)] ∧ ((m' = 1 ∧ H = H') ∨ (m' = 0 ∧ i = ws.length ∧ ∃ e, Ex (adL nw fr b r) H H' ∧ EnH K CR H' nw { r with en := e } m.told (m.left ++ endL i m.f))), fun _ _ z => z, ?_⟩
        refine ⟨.ref nw, rfl, nw, fr, b, r, ws, xs, kd, Ws, n, i, m, rfl, S, hn, ll, fun H' e x' E' => ?_⟩
        exact ⟨0, by decide, rfl, .inr ⟨rfl, ei, e, x', E'⟩⟩
    · obtain ⟨dx, fs, h1, h2⟩ := id E2.R
      obtain ⟨en, h3, h4⟩ := E2.en
      have h2e := h2.en
      rw [h3] at h2e
      exact ⟨.ref nw, rfl, nw, CR, dx, fs, .ref en, rfl, h1, T.cl, T.n6, h2e, rfl, _, rfl, itN (by simp) (q2 ei H2 e x2 E2)⟩
/-- the next answer, or 0 -/
def tAns (K : PySem.W.Frag) (CR : Addr) : TE := fun σ H Q => ∃ (y1 y3 : Option V) (nw : Addr) (r : RnS) (ch : Int) (xs : List V), σ = [some (.ref nw), y1, some (.int ch), y3] ∧ RnH CR H nw r ∧ SqT K H r.an xs ∧
  (ch > 0 → ∃ a, xs[r.wt]? = some (.int a) ∧ 0 ≤ a ∧ a < ch ∧ ∀ H', Ex [nw] H H' → RnH CR H' nw { r with wt := r.wt + 1 } → Q (.int a) H') ∧ (¬ ch > 0 → Q (.int 0) H)
def asks (W : Wo) : Bool := decide (0 < chW W)
/-- the answer that a word gets -/
def ansW (W : Wo) (a : Int) : Int := if asks W = true then a else 0
def rAns (r : RnS) (W : Wo) : RnS := { r with wt := r.wt + (if asks W = true then 1 else 0), st := r.st + 1 }
def spStep (K : PySem.W.Frag) (CF CR : Addr) : Sp := fun vs H Q _ => ∃ (nw fr b : Addr) (r : RnS) (ws : List Wo) (xs : List V) (kd Ws : List Str) (n i : Nat) (m : Sm) (W : Wo) (a : Int), vs = [.ref nw] ∧ StH K CF CR H nw fr b r ws xs kd Ws n i m ∧ ws[i]? = some W ∧ plainW W = true ∧ okW kd Ws W ∧ n + 1 < 64 ∧ Ws.length ≤ 20 ∧ m.told.length ≤ 1000 ∧ m.left.length ≤ 10000 ∧
  (asks W = true → xs[r.wt]? = some (.int a) ∧ 0 ≤ a ∧ a < 10000) ∧
  (i + 1 < ws.length → ∀ H', Ex (adL nw fr b r) H H' → StH K CF CR H' nw fr b (rAns r W) ws xs kd Ws (n + 1) (i + 1) (stepM i W (ansW W a) m) → Q .non H') ∧
  (i + 1 = ws.length → ∀ H' e, Ex (adL nw fr b r) H H' → EnH K CR H' nw { rAns r W with en := e } (stepM i W (ansW W a) m).told ((stepM i W (ansW W a) m).left ++ endL (i + 1) (stepM i W (ansW W a) m).f) → Q .non H')
theorem ch_plain {W : Wo} (h : plainW W = true) (c : chW W > 0) : chW W = 10000 := by
  have n0 : ¬ (0 : Int) > 0 := by decide
  cases W with
  | take b s => rfl
  | ask b => rfl
  | risk x => cases h
  | _ => exact absurd c n0
theorem left_len {i : Nat} {f : Bq → Wv} {kd Ws : List Str} {W : Wo} (h : okW kd Ws W) : (leftW i f W).length ≤ 64 := by
  cases W with
  | drop bs =>
    show (leftB i f bs).length ≤ 64
    unfold leftB
    obtain ⟨ys, pm, srt⟩ := srt_ex bs
    rw [srtS_eq pm srt, List.length_map]
    have h2 : bs.length < 64 := h
    have := List.length_filter_le (fun q => decide (¬ (f q).2 = [])) ys
    rw [pm.length_eq] at this
    omega
  | _ => exact Nat.zero_le _
theorem ok_step {f CF CR f1 f2 f3 f4 f5 : Addr} {fd d1 d2 d3 d4 d5 : FuncData} {k : Nat} (F : Fun K "do_step" "do_step" s_step f fd) (T : TR K mg CR) (GW : FnOk P w K mg base CX0 k f1 d1 ["self"] (spWord K CF CR)) (mW : Meth K CR "word" f1) (bW : Binds K d1 ["self"] [])
    (GN : FnOk P w K mg base CX0 k f2 d2 ["self", "choices"] (spNext K CR)) (mN : Meth K CR "next_answer" f2) (bN : Binds K d2 ["self", "choices"] [])
    (C_ch : Cl P w K mg base k "choices_of" ["word"] (spChoices K) f3 d3) (C_plain : Cl P w K mg base k "do_plain" ["now", "word", "answer"] (spPlain K CF CR) f4 d4) (C_ends : Cl P w K mg base k "do_ends" ["now"] (spEnds K CF CR) f5 d5) :
    FnOk P w K mg base CX0 (k + 1) f fd ["now"] (spStep K CF CR) := by
  refine F.ok sc_step (fun vs H Q E h => ?_) (fun cdv A outer s H vs Q E hr h => ?_)
  · obtain ⟨nw, fr, b, r, ws, xs, kd, Ws, n, i, m, W, a, rfl, _⟩ := h; rfl
  · obtain ⟨nw, fr, b, r, ws, xs, kd, Ws, n, i, m, W, a, rfl, S, hW, pW, okw, hn, hWs, lt, ll, ha, q1, q2⟩ := h
    refine ⟨_, (pss_cons (ps_set (i := 1) sc_step.nd rfl (.inl rfl) (pe_meth0 (pv 0) T.cl mW GW hr bW .nil pass0))
      (pss_cons (ps_set (i := 2) sc_step.nd rfl (.inl rfl) (pe_call C_ch.g hr (by rfl) C_ch.m C_ch.k C_ch.b .nil pass0 (pa_cons (pv 1) pa_nil)))
      (pss_cons (ps_set (i := 3) sc_step.nd rfl (.inl rfl) (PE.by (t' := tAns K CR) (pe_ifExp (pt_cmpR op_gt (pv 2) pe_int (nomark _)) (pe_meth (pv 0) T.cl mN GN hr bN .nil pass0 (pa_cons (pv 2) pa_nil)) pe_int) (by
          rintro σ H Q ⟨y1, y3, nw, r, ch, xs, rfl, hR, ha, q1, q2⟩
          refine ⟨.int ch, rfl, ch, 0, rfl, rfl, _, rfl, ite2 (fun e => ?_) fun e => ?_⟩
          · obtain ⟨a, h1, h2, h3, q3⟩ := q1 (of_decide_eq_true e)
            obtain ⟨dx, fs, r1, r2⟩ := id hR
            exact ⟨.ref nw, rfl, nw, dx, fs, rfl, r1, r2.m3, .int ch, rfl, nw, r, ch, a, xs, rfl, hR, ha, h1, h2, h3, q3⟩
          · exact q2 fun z => e (decide_eq_true z))))
      (pss_cons (ps_fldaug (pv 0) pe_int ip_add)
      (pss_cons (ps_if (PW.pt (pw_or (pt_cmpR op_eq (pe_ix ix_tup (pv 1) pe_int (fun _ _ => rfl)) pe_str (nomark _)) (pw_or1 (PW.pt (pw_and (pt_cmpR op_eq (pe_ix ix_tup (pv 1) pe_int (fun _ _ => rfl)) pe_str (nomark _)) (pw_and1 pt_nv)))))) (pss_one ps_nv)
        (pss_one (ps_if (pt_cmpR op_eq (pe_ix ix_tup (pv 1) pe_int (fun _ _ => rfl)) pe_str (nomark _)) (pss_one ps_nv)
          (pss_one (ps_if (pt_cmpR op_eq (pe_ix ix_tup (pv 1) pe_int (fun _ _ => rfl)) pe_str (nomark _)) (pss_one ps_nv) (pss_one (ps_expr (pe_call C_plain.g hr (by rfl) C_plain.m C_plain.k C_plain.b .nil pass0 (pa_cons (pv 0) (pa_cons (pv 1) (pa_cons (pv 3) pa_nil)))))))))))
      (pss_one (ps_expr (pe_call C_ends.g hr (by rfl) C_ends.m C_ends.k C_ends.b .nil pass0 (pa_cons (pv 0) pa_nil))))))))), ?_⟩
    obtain ⟨dx, fs, h1, h2⟩ := id S.R
    obtain ⟨pl, hF, tpl⟩ := S.F
    have li : i < ws.length := (List.getElem?_eq_some_iff.mp hW).1
    refine ⟨.ref nw, rfl, nw, dx, fs, rfl, h1, h2.m1, nw, fr, b, r, pl, [], ws, i, rfl, S.R, S.fl, hF, S.pg, tpl, fun u hu => ?_⟩
    rw [wdAt_some hW] at hu
    refine ⟨u, rfl, u, W, rfl, hu, ?_⟩
    have nk := plain_k pW
    have n1 : ¬ kW W = Str.ofString "fault" := fun z => nk (by rw [z]; decide +kernel)
    have n2 : ¬ kW W = Str.ofString "risk" := fun z => nk (by rw [z]; decide +kernel)
    have n3 : ¬ kW W = Str.ofString "back" := fun z => nk (by rw [z]; decide +kernel)
    have n4 : ¬ kW W = Str.ofString "call" := fun z => nk (by rw [z]; decide +kernel)
    obtain ⟨wa, wr, rfl, hws, _⟩ := word_in hu
    have nb : nw ≠ b := by
      obtain ⟨kvs, k1, _⟩ := id S.D
      exact ne_of h1 k1 (by intro z; cases z)
    have ntl : nw ≠ r.tl := ne_of h1 S.tl (by intro z; cases z)
    have nlf : nw ≠ r.lf := by
      obtain ⟨ls, hlf, _⟩ := S.lf
      exact ne_of h1 hlf (by intro z; cases z)
    have nfl : nw ≠ r.fl := ne_of h1 S.fl (by intro z; cases z)
    have st : ∀ (H1 : Hp) (wt1 : Nat), Ex [nw] H H1 → RnH CR H1 nw { r with wt := wt1 } → StH K CF CR H1 nw fr b { r with wt := wt1 } ws xs kd Ws n i m := fun H1 wt1 x1 hR1 => by
      obtain ⟨ls, h3, h4⟩ := S.lf
      exact ⟨hR1, S.en, x1.lst S.fl (by simpa using nfl.symm), ⟨pl, hF.ex x1 (by simpa using S.d1.symm), tpl.ex x1⟩, S.D.ex x1 (by simpa using nb.symm), x1.lst S.tl (by simpa using ntl.symm), ⟨ls, x1.lst h3 (by simpa using nlf.symm), h4.ex x1⟩, S.pg.ex x1, x1.seqT S.an, S.d1, S.d2, S.d3, S.d4⟩
    have st2 : ∀ (H1 : Hp) (wt1 : Nat) (dx1 : Addr) (fs1 : List (Str × V)), StH K CF CR H1 nw fr b { r with wt := wt1 } ws xs kd Ws n i m → H1 nw = some (.ins CR dx1 fs1) → RnF { r with wt := wt1 } fs1 → StH K CF CR (upd H1 nw (.ins CR dx1 (putF "steps" (.int ((r.st : Int) + 1)) fs1))) nw fr b { r with wt := wt1, st := r.st + 1 } ws xs kd Ws n i m := fun H1 wt1 dx1 fs1 S1 e1 e2 => by
      have x1 : Ex [nw] H1 (upd H1 nw (.ins CR dx1 (putF "steps" (.int ((r.st : Int) + 1)) fs1))) := .put e1 (fun _ z => by cases z) (by simp)
      obtain ⟨pl1, hF1, tpl1⟩ := S1.F
      obtain ⟨ls, h3, h4⟩ := S1.lf
      exact ⟨⟨dx1, _, upd_same, e2.st1 (r.st + 1) (by rw [putF_len (by rw [e2.st]; simp)]; exact e2.ln)⟩, S.en, x1.lst S1.fl (by simpa using nfl.symm), ⟨pl1, hF1.ex x1 (by simpa using S.d1.symm), tpl1.ex x1⟩, S1.D.ex x1 (by simpa using nb.symm), x1.lst S1.tl (by simpa using ntl.symm), ⟨ls, x1.lst h3 (by simpa using nlf.symm), h4.ex x1⟩, S1.pg.ex x1, x1.seqT S1.an, S.d1, S.d2, S.d3, S.d4⟩
    have fin : ∀ (H1 : Hp) (r1 : RnS), Ex [nw] H H1 → r1 = rAns r W → StH K CF CR H1 nw fr b r1 ws xs kd Ws n i m → ∀ kk : VK, (∀ H2 v, spEnds K CF CR [.ref nw] H2 (fun _ H3 => Q .non H3) (E0 : XK) → kk v H2) → spPlain K CF CR [.ref nw, .ref wa, .int (ansW W a)] H1 kk (E0 : XK) := fun H1 r1 x1 er S1 kk hkk => by
      subst er
      refine ⟨nw, fr, b, rAns r W, ws, xs, kd, Ws, n, i, m, W, .ref wa, ansW W a, rfl, S1, hW, hu.ex x1, pW, okw, by omega, hWs, lt, by omega, fun H2 x2 S2 => hkk H2 .non ?_⟩
      have l1 := left_len (i := i) (f := m.f) okw
      have x12 : Ex (adL nw fr b r) H H2 := (x1.mono (by simp)).trans x2
      refine ⟨nw, fr, b, rAns r W, ws, xs, kd, Ws, n + 1, i + 1, stepM i W (ansW W a) m, rfl, S2, hn, ?_, li, fun l => q1 l H2 x12 S2, fun l H3 e x3 E3 => q2 l H3 e (x12.trans x3) E3⟩
      show (m.left ++ leftW i m.f W).length ≤ 100000
      rw [List.length_append]; omega
    have tailK : ∀ (H1 : Hp) (wt1 : Nat), Ex [nw] H H1 → RnH CR H1 nw { r with wt := wt1 } → wt1 = r.wt + (if asks W = true then 1 else 0) → ∃ dx1 fs1, H1 nw = some (.ins CR dx1 fs1) ∧ RnF { r with wt := wt1 } fs1 ∧ StH K CF CR (upd H1 nw (.ins CR dx1 (putF "steps" (.int ((r.st : Int) + 1)) fs1))) nw fr b (rAns r W) ws xs kd Ws n i m := fun H1 wt1 x1 hR1 ew => by
      obtain ⟨dx1, fs1, e1, e2⟩ := id hR1
      refine ⟨dx1, fs1, e1, e2, ?_⟩
      have := st2 H1 wt1 dx1 fs1 (st H1 wt1 x1 hR1) e1 e2
      rw [ew] at this
      exact this
    refine ⟨some (.ref wa), none, nw, r, chW W, xs, rfl, S.R, S.an, fun c => ?_, fun c => ?_⟩
    · have hk : asks W = true := decide_eq_true c
      obtain ⟨a1, a2, a3⟩ := ha hk
      have c10 : chW W = 10000 := ch_plain pW c
      refine ⟨a, a1, a2, by rw [c10]; exact a3, fun H1 x1 hR1 => ?_⟩
      obtain ⟨dx1, fs1, e1, e2, S1⟩ := tailK H1 (r.wt + 1) x1 hR1 (by rw [if_pos hk])
      refine ⟨.ref nw, rfl, nw, CR, dx1, fs1, .int r.st, rfl, e1, T.cl, T.n3, e2.st, r.st, 1, rfl, rfl, dx1, fs1, e1, by have := e2.ln; omega, ?_⟩
      have x2 : Ex [nw] H1 (upd H1 nw (.ins CR dx1 (putF "steps" (.int ((r.st : Int) + 1)) fs1))) := .put e1 (fun _ z => by cases z) (by simp)
      have hs2 := (x1.trans x2).seqT hws
      refine ⟨.ref wa, rfl, wa, _, 0, _, rfl, rfl, hs2, at0, rfl, _, rfl, sN n1 ⟨.ref wa, rfl, wa, _, 0, _, rfl, rfl, hs2, at0, rfl, _, rfl, sN n2 ?_⟩⟩
      refine ⟨.ref wa, rfl, wa, _, 0, _, rfl, rfl, hs2, at0, rfl, _, rfl, sN n3 ⟨.ref wa, rfl, wa, _, 0, _, rfl, rfl, hs2, at0, rfl, _, rfl, sN n4 ?_⟩⟩
      have ea : a = ansW W a := by unfold ansW; rw [if_pos hk]
      have := fin _ _ (x1.trans x2) rfl S1
      rw [← ea] at this
      refine ⟨.ref nw, rfl, .ref wa, rfl, .int a, rfl, ?_⟩
      dsimp only [tNil, List.append_nil]
      exact this _ fun H2 v h => ⟨.ref nw, rfl, h⟩
    · have hk : asks W = false := decide_eq_false c
      obtain ⟨dx1, fs1, e1, e2, S1⟩ := tailK H r.wt .refl S.R (by rw [hk]; rfl)
      refine ⟨.ref nw, rfl, nw, CR, dx1, fs1, .int r.st, rfl, e1, T.cl, T.n3, e2.st, r.st, 1, rfl, rfl, dx1, fs1, e1, by have := e2.ln; omega, ?_⟩
      have x2 : Ex [nw] H (upd H nw (.ins CR dx1 (putF "steps" (.int ((r.st : Int) + 1)) fs1))) := .put e1 (fun _ z => by cases z) (by simp)
      have hs2 := x2.seqT hws
      refine ⟨.ref wa, rfl, wa, _, 0, _, rfl, rfl, hs2, at0, rfl, _, rfl, sN n1 ⟨.ref wa, rfl, wa, _, 0, _, rfl, rfl, hs2, at0, rfl, _, rfl, sN n2 ?_⟩⟩
      refine ⟨.ref wa, rfl, wa, _, 0, _, rfl, rfl, hs2, at0, rfl, _, rfl, sN n3 ⟨.ref wa, rfl, wa, _, 0, _, rfl, rfl, hs2, at0, rfl, _, rfl, sN n4 ?_⟩⟩
      have ea : (0 : Int) = ansW W a := by unfold ansW; rw [hk]; rfl
      have := fin _ _ x2 rfl S1
      rw [← ea] at this
      refine ⟨.ref nw, rfl, .ref wa, rfl, .int 0, rfl, ?_⟩
      dsimp only [tNil, List.append_nil]
      exact this _ fun H2 v h => ⟨.ref nw, rfl, h⟩
end
end K10

set_option maxHeartbeats 4000000
namespace K10
open PySem PySem.Spec PyProof.Rows L2 Kk RZ
def m0 : Sm := ⟨fun _ => (0, []), [], []⟩
/-- the state behind so many words -/
noncomputable def goM (ws : List Wo) (ns : List Int) : Nat → Sm
  | 0 => m0
  | i + 1 => match ws[i]?, ns[i]? with
    | some W, some a => stepM i W (ansW W a) (goM ws ns i)
    | _, _ => goM ws ns i
def cntA (ws : List Wo) (i : Nat) : Nat := ((ws.take i).filter asks).length
theorem cntA_succ {ws : List Wo} {i : Nat} {W : Wo} (h : ws[i]? = some W) : cntA ws (i + 1) = cntA ws i + (if asks W = true then 1 else 0) := by
  unfold cntA
  rw [List.take_add_one, h, List.filter_append, List.length_append]
  congr 1
  show ([W].filter asks).length = _
  rw [List.filter_cons]
  split <;> simp [*]
theorem goM_succ {ws : List Wo} {ns : List Int} {i : Nat} {W : Wo} {a : Int} (h : ws[i]? = some W) (g : ns[i]? = some a) : goM ws ns (i + 1) = stepM i W (ansW W a) (goM ws ns i) := by
  show (match ws[i]?, ns[i]? with
    | some W, some a => stepM i W (ansW W a) (goM ws ns i)
    | _, _ => goM ws ns i) = _
  rw [h, g]
theorem goM_len {ws : List Wo} {ns : List Int} {kd Ws : List Str} (h : ∀ W ∈ ws, okW kd Ws W) : ∀ i, (goM ws ns i).told.length ≤ i ∧ (goM ws ns i).left.length ≤ 64 * i
  | 0 => ⟨Nat.le_refl _, Nat.le_refl _⟩
  | i + 1 => by
    obtain ⟨h1, h2⟩ := goM_len (ns := ns) h i
    cases hw : ws[i]? with
    | none =>
      have e : goM ws ns (i + 1) = goM ws ns i := by
        show (match ws[i]?, ns[i]? with
          | some W, some a => stepM i W (ansW W a) (goM ws ns i)
          | _, _ => goM ws ns i) = _
        rw [hw]
      rw [e]; omega
    | some W =>
      cases hn : ns[i]? with
      | none =>
        have e : goM ws ns (i + 1) = goM ws ns i := by
          show (match ws[i]?, ns[i]? with
            | some W, some a => stepM i W (ansW W a) (goM ws ns i)
            | _, _ => goM ws ns i) = _
          rw [hw, hn]
        rw [e]; omega
      | some a =>
        rw [goM_succ hw hn]
        have l1 := left_len (i := i) (f := (goM ws ns i).f) (h W (List.mem_of_getElem? hw))
        have l2 : (tellW (goM ws ns i).f W).length ≤ 1 := by cases W <;> first | exact Nat.zero_le _ | exact Nat.le_refl _
        refine ⟨?_, ?_⟩
        · show ((goM ws ns i).told ++ tellW (goM ws ns i).f W).length ≤ _
          rw [List.length_append]; omega
        · show ((goM ws ns i).left ++ leftW i (goM ws ns i).f W).length ≤ _
          rw [List.length_append]; omega
/-- the boxes that hold something, rising -/
def HdL (f : Bq → Wv) (qs : List Str) : Prop := qs.Pairwise leS ∧ qs.Nodup ∧ ∀ q, q ∈ qs ↔ ¬ f q = (0, [])
noncomputable def hdL (f : Bq → Wv) : List Str := Classical.epsilon (HdL f)
theorem hdL_eq {f : Bq → Wv} {qs : List Str} (h : HdL f qs) : hdL f = qs := by
  have s : HdL f (hdL f) := Classical.epsilon_spec ⟨qs, h⟩
  exact srt_uniq _ _ s.1 h.1 s.2.1 h.2.1 fun x => by rw [s.2.2 x, h.2.2 x]
noncomputable def onD (m : Sm) (i : Nat) : PyData := .tuple [.str (Str.ofString "on"), plcD i, .int i, .tuple (m.told.map .int), .tuple m.left, .tuple ((hdL m.f).map (oneD m.f))]
noncomputable def edD (m : Sm) (i : Nat) : PyData := .tuple [.str (Str.ofString "ended"), .int i, .tuple (m.told.map .int), .tuple (m.left ++ endL i m.f)]
/-- what a run answers -/
noncomputable def resD (ws : List Wo) (ns : List Int) (most : Nat) : PyData := if most < ws.length then onD (goM ws ns most) most else edD (goM ws ns ws.length) ws.length
theorem ints_all {K : PySem.W.Frag} {H : Hp} (l : List Int) : TpAll K H (l.map V.int) (l.map PyData.int) := by
  induction l with
  | nil => exact .nil
  | cons n l ih => exact .cons (.int _) ih
theorem hd_new {K : PySem.W.Frag} {H : Hp} {b : Addr} {kd Ws : List Str} (h : H b = some (.dK [])) : Hd K H b kd Ws 0 m0.f :=
  ⟨[], h, Nat.le_refl _, (by simp), (fun kv m => nomatch m), (fun q v e => nomatch e), (fun q _ => rfl), fun q => ⟨(by simp [m0]), fun s m => nomatch m⟩⟩
section
variable {P : Program} {w : World} {K : PySem.W.Frag} {mg : Str → Option Value} {base : Heap}
/-- the words and the numbers go together -/
structure RowOk (ws : List Wo) (ns : List Int) (xs : List V) (kd Ws : List Str) : Prop where
  len : ns.length = ws.length
  lt : ws.length < 62
  pl : ∀ W ∈ ws, plainW W = true ∧ okW kd Ws W
  an : ∀ (i : Nat) (W : Wo), ws[i]? = some W → asks W = true → ∃ a, ns[i]? = some a ∧ xs[cntA ws i]? = some (.int a) ∧ 0 ≤ a ∧ a < 10000
  wl : Ws.length ≤ 20
  ws : ∀ s ∈ Ws, PyData.strOk s = true
def spRun (K : PySem.W.Frag) : Sp := fun vs H Q _ => ∃ (p : V) (an : Addr) (most : Nat) (ws : List Wo) (ns : List Int) (xs : List V) (kd Ws : List Str), vs = [p, .ref an, .int most] ∧ Tp K H p (pgD ws) ∧ SqT K H an xs ∧ RowOk ws ns xs kd Ws ∧
  ∀ H' v, Ex [] H H' → Tp K H' v (resD ws ns most) → Q v H'
theorem ok_run {f CF CR fRI fL fHd f1 f2 : Addr} {fd dRI dL dHd d1 d2 : FuncData} {k : Nat} (F : Fun K "run" "run" s_run f fd) (T : TR K mg CR) (TFr : TF K mg CF) (MR : Mk K CR fRI)
    (GRI : FnOk P w K mg base CX0 k fRI dRI ["self", "program", "answers"] (spRInit K CF CR)) (bRI : Binds K dRI ["self", "program", "answers"] [])
    (GL : FnOk P w K mg base CX0 (k + 1) fL dL ["self"] (spLacks K CF CR)) (mL : Meth K CR "lacks_answer" fL) (bL : Binds K dL ["self"] [])
    (GHd : FnOk P w K mg base CX0 (k + 1) fHd dHd ["self"] (spHeld K CF)) (mHd : Meth K CF "held" fHd) (bHd : Binds K dHd ["self"] [])
    (C_ends : Cl P w K mg base (k + 1) "do_ends" ["now"] (spEnds K CF CR) f1 d1) (C_step : Cl P w K mg base (k + 1) "do_step" ["now"] (spStep K CF CR) f2 d2) (m_tuple : mg "tuple" = none) : FnOk P w K mg base CX0 (k + 2) f fd ["program", "answers", "most"] (spRun K) := by
  refine F.ok sc_run (fun vs H Q E h => ?_) (fun cdv A outer s H vs Q E hr h => ?_)
  · obtain ⟨p, an, most, ws, ns, xs, kd, Ws, rfl, _⟩ := h; rfl
  · obtain ⟨p, an, most, ws, ns, xs, kd, Ws, rfl, hp, han, R, q⟩ := h
    refine ⟨_, (pss_cons (ps_set (i := 3) sc_run.nd rfl (.inl rfl) (pe_make MR GRI hr (by rfl) T.mgC bRI .nil pass0 (pa_cons (pv 0) (pa_cons (pv 1) pa_nil))))
      (pss_cons (ps_expr (pe_call C_ends.g hr (by rfl) C_ends.m C_ends.k C_ends.b .nil pass0 (pa_cons (pv 3) pa_nil)))
      (pss_cons (ps_while PassesOwn.never (PW.pt (pw_and (pt_cmpR op_isN (pe_fld (pv 3) rfl) pe_non (nomark _)) (pw_and (pt_cmpR op_lt (pe_fld (pv 3) rfl) (pv 2) (nomark _)) (pw_and1 (pt_not (pt_val (pe_meth0 (pv 3) T.cl mL GL hr bL .nil pass0))))))) (pss_one (ps_expr (pe_call C_step.g hr (by rfl) C_step.m C_step.k C_step.b .nil pass0 (pa_cons (pv 3) pa_nil)))))
      (pss_cons (ps_set (i := 4) sc_run.nd rfl (.inl rfl) (pe_tup (pa_cons (pe_fld (pv 3) rfl) (pa_cons (pe_callTy call_tuple_of (by rfl) m_tuple (by decide +kernel) (pa_cons (pe_fld (pv 3) rfl) pa_nil)) (pa_cons (pe_callTy call_tuple_of (by rfl) m_tuple (by decide +kernel) (pa_cons (pe_fld (pv 3) rfl) pa_nil)) pa_nil)))))
      (pss_cons (ps_if (pt_cmpR op_notN (pe_fld (pv 3) rfl) pe_non (nomark _)) (pss_one (ps_ret (pe_op op_catA (pe_fld (pv 3) rfl) (pv 4)))) pss_nil)
      (pss_cons (ps_set (i := 5) sc_run.nd rfl (.inl rfl) (pe_ix ix_list (pe_fld (pv 3) rfl) (pe_un un_neg pe_int) (fun _ _ => rfl)))
      (pss_one (ps_ret (pe_tup (pa_cons pe_str (pa_cons (pe_fld (pv 5) rfl) (StX.pa_star (pv 4) (pa_cons (pe_meth0 (pv 5) TFr.cl mHd GHd hr bHd .nil pass0) pa_nil)))))))))))))  , ?_⟩
    have lw := R.lt
    have hok : ∀ W ∈ ws, okW kd Ws W := fun W h => (R.pl W h).2
    refine ⟨p, rfl, .ref an, rfl, fun nw dx nnw ndx nex => ?_⟩
    have xd : Ex [nw] H (upd H dx (.own nw)) := .new ndx
    have nnw2 : (upd H dx (.own nw)) nw = none := by rw [upd_ne nex.symm]; exact nnw
    have xn : Ex [nw] (upd H dx (.own nw)) (upd (upd H dx (.own nw)) nw (.ins CR dx [])) := .new nnw2
    refine ⟨nw, dx, an, p, rfl, upd_same, fun H1 fr b tl lf fl pl x1 nfr nb ntl nlf nfl hR1 hF1 tpl1 hb1 htl1 hlf1 hfl1 e1 e2 e3 => ⟨rfl, ?_⟩⟩
    have nfr0 : H fr = none := upd_free (upd_free nfr)
    have nb0 : H b = none := upd_free (upd_free nb)
    have ntl0 : H tl = none := upd_free (upd_free ntl)
    have nlf0 : H lf = none := upd_free (upd_free nlf)
    have nfl0 : H fl = none := upd_free (upd_free nfl)
    have x01 : Ex [nw] H H1 := (xd.trans xn).trans x1
    have nwfr : nw ≠ fr := fun z => by rw [← z, upd_same] at nfr; cases nfr
    have own : ∀ {H2 : Hp}, Ex [nw, fr, b, tl, lf, fl] H H2 → Ex [] H H2 := fun y =>
      Ex.own nnw .refl (Ex.own nfr0 .refl (Ex.own nb0 .refl (Ex.own ntl0 .refl (Ex.own nlf0 .refl (Ex.own nfl0 .refl (y.mono (by simp)))))))
    have S1 : StH K CF CR H1 nw fr b ⟨p, an, 0, 0, tl, lf, .non, fl⟩ ws xs kd Ws 0 0 m0 := ⟨hR1, rfl, hfl1, ⟨pl, hF1, tpl1⟩, hd_new hb1, htl1, ⟨[], hlf1, .nil⟩, hp.ex x01, x01.seqT han, nwfr, e1, e2, e3⟩
    -- behind the first ends
    let Dj : Nat → Hp → Prop := fun M H2 => ((∃ i, i ≤ most ∧ i < ws.length ∧ M = ws.length + 1 - i ∧ Ex [nw, fr, b, tl, lf, fl] H H2 ∧ StH K CF CR H2 nw fr b ⟨p, an, cntA ws i, i, tl, lf, .non, fl⟩ ws xs kd Ws i i (goM ws ns i)) ∨ (ws.length ≤ most ∧ M = 0 ∧ Ex [nw, fr, b, tl, lf, fl] H H2 ∧ ∃ e wt, EnH K CR H2 nw ⟨p, an, wt, ws.length, tl, lf, e, fl⟩ (goM ws ns ws.length).told ((goM ws ns ws.length).left ++ endL ws.length (goM ws ns ws.length).f)))
    refine (fun tail => ⟨.ref nw, rfl, nw, fr, b, _, ws, xs, kd, Ws, 0, 0, m0, rfl, S1, by omega, Nat.zero_le _, Nat.zero_le _, fun l => tail H1 ⟨ws.length + 1, .inl ⟨0, Nat.zero_le _, l, rfl, x01.mono (by simp), S1⟩⟩, fun l H2 e x2 E2 => tail H2 ⟨0, .inr ⟨by omega, rfl, (x01.mono (by simp)).trans x2, e, 0, by rw [← l]; exact E2⟩⟩⟩) (?_ : ∀ H2, (∃ M, Dj M H2) → _)
    intro H2 ⟨M0, h0⟩
    refine ⟨fun M σ H3 => σ = [some p, some (.ref an), some (.int most), some (.ref nw), none, none] ∧ Dj M H3, ⟨M0, rfl, h0⟩, ?_⟩
    rintro M σ H3 ⟨rfl, ⟨i, li1, li2, eM, x3, S3⟩ | ⟨lw2, eM, x3, e, wt, E3⟩⟩
    · obtain ⟨dx3, fs3, h1, h2⟩ := id S3.R
      obtain ⟨W, hW⟩ : ∃ W, ws[i]? = some W := ⟨_, List.getElem?_eq_getElem li2⟩
      obtain ⟨a, ha⟩ : ∃ a, ns[i]? = some a := ⟨_, List.getElem?_eq_getElem (show i < ns.length by rw [R.len]; exact li2)⟩
      obtain ⟨pW, oW⟩ := R.pl W (List.mem_of_getElem? hW)
      obtain ⟨lt1, lt2⟩ := goM_len (ns := ns) hok i
      obtain ⟨pl3, hF3, tpl3⟩ := S3.F
      obtain ⟨ls3, hlf3, tls3⟩ := S3.lf
      refine ⟨.ref nw, rfl, nw, CR, dx3, fs3, .non, rfl, h1, T.cl, T.n6, h2.en, rfl, _, rfl, itD rfl ?_⟩
      refine ⟨.ref nw, rfl, nw, CR, dx3, fs3, .int i, rfl, h1, T.cl, T.n3, h2.st, .int most, rfl, i, most, rfl, rfl, _, rfl, ?_⟩
      rcases Nat.lt_or_ge i most with lm | lm
      · refine itD (by omega) ?_
        refine ⟨.ref nw, rfl, nw, dx3, fs3, rfl, h1, h2.m2, nw, fr, b, _, pl3, [], ws, i, W, xs, rfl, S3.R, S3.fl, hF3, S3.pg, tpl3, hW, S3.an, fun c => ?_, _, rfl, iteT ?_⟩
        · obtain ⟨a', _, z, _⟩ := R.an i W hW (decide_eq_true c)
          exact (List.getElem?_eq_some_iff.mp z).1
        refine ⟨fun σ' H' => ∃ m', m' < M ∧ σ' = [some p, some (.ref an), some (.int most), some (.ref nw), none, none] ∧ Dj m' H', fun _ _ z => z, ?_⟩
        have eg := goM_succ hW ha
        have ec := cntA_succ hW
        have er : rAns ⟨p, an, cntA ws i, i, tl, lf, .non, fl⟩ W = ⟨p, an, cntA ws (i + 1), i + 1, tl, lf, .non, fl⟩ := by
          unfold rAns
          rw [ec]
        refine ⟨.ref nw, rfl, nw, fr, b, _, ws, xs, kd, Ws, i, i, goM ws ns i, W, a, rfl, S3, hW, pW, oW, by omega, R.wl, by omega, by omega, fun c => ?_, fun l H4 x4 S4 => ?_, fun l H4 e x4 E4 => ?_⟩
        · obtain ⟨a', z1, z2, z3, z4⟩ := R.an i W hW c
          rw [ha] at z1
          cases z1
          exact ⟨z2, z3, z4⟩
        · rw [er, ← eg] at S4
          exact ⟨ws.length + 1 - (i + 1), by omega, rfl, .inl ⟨i + 1, lm, l, rfl, x3.trans x4, S4⟩⟩
        · rw [er, ← eg] at E4
          refine ⟨0, by omega, rfl, .inr ⟨by omega, rfl, x3.trans x4, e, cntA ws (i + 1), ?_⟩⟩
          rw [← l]; exact E4
      · have em : i = most := by omega
        refine itN (by omega) ?_
        refine ⟨.ref nw, rfl, nw, CR, dx3, fs3, .int i, rfl, h1, T.cl, T.n3, h2.st, .ref nw, rfl, nw, CR, dx3, fs3, .ref tl, rfl, h1, T.cl, T.n4, h2.tl, tl, _, rfl, .inl ⟨.of S3.tl, fun t1 n1 => ?_⟩⟩
        have y1 : Ex [] H3 (upd H3 t1 (.tup ((goM ws ns i).told.map V.int))) := .new n1
        refine ⟨.ref nw, rfl, nw, CR, dx3, fs3, .ref lf, rfl, y1.a nw _ (by simp) h1 (fun _ z => by cases z), T.cl, T.n5, h2.lf, lf, _, rfl, .inl ⟨.of (y1.lst hlf3), fun t2 n2 => ?_⟩⟩
        have y2 : Ex [] (upd H3 t1 (.tup ((goM ws ns i).told.map V.int))) (upd (upd H3 t1 (.tup ((goM ws ns i).told.map V.int))) t2 (.tup ls3)) := .new n2
        refine ⟨l3, fun dn n3 => ?_⟩
        have y3 : Ex [] (upd (upd H3 t1 (.tup ((goM ws ns i).told.map V.int))) t2 (.tup ls3)) (upd (upd (upd H3 t1 (.tup ((goM ws ns i).told.map V.int))) t2 (.tup ls3)) dn (.tup [.int i, .ref t1, .ref t2])) := .new n3
        have hdn : (upd (upd (upd H3 t1 (.tup ((goM ws ns i).told.map V.int))) t2 (.tup ls3)) dn (.tup [.int i, .ref t1, .ref t2])) dn = some (.tup [.int i, .ref t1, .ref t2]) := upd_same
        have ht1 := y3.tup (y2.tup (upd_same (H := H3) (a := t1) (o := .tup ((goM ws ns i).told.map V.int))))
        have ht2 := y3.tup (upd_same (H := upd H3 t1 (.tup ((goM ws ns i).told.map V.int))) (a := t2) (o := .tup ls3))
        have y := (y1.trans y2).trans y3
        generalize upd (upd (upd H3 t1 (.tup ((goM ws ns i).told.map V.int))) t2 (.tup ls3)) dn (.tup [.int i, .ref t1, .ref t2]) = H6 at hdn ht1 ht2 y
        have S6 := S3.ex y
        obtain ⟨dx6, fs6, h61, h62⟩ := id S6.R
        obtain ⟨pl6, hF6, tpl6⟩ := S6.F
        obtain ⟨dF6, fF6, g1, g2, g3, g4, g5, g6⟩ := id hF6
        refine ⟨.ref nw, rfl, nw, CR, dx6, fs6, .non, rfl, h61, T.cl, T.n6, h62.en, rfl, _, rfl, ?_⟩
        show if (!decide (V.non = V.non)) = true then _ else _
        rw [decide_eq_true (show V.non = V.non from rfl), if_neg (by decide)]
        refine ⟨.ref nw, rfl, nw, CR, dx6, fs6, .ref fl, rfl, h61, T.cl, T.n7, h62.fl, 1, rfl, fl, _, -1, .ref fr, rfl, rfl, .of S6.fl, rfl, ?_⟩
        refine ⟨.ref fr, rfl, fr, CF, dF6, fF6, pl6, rfl, g1, TFr.cl, TFr.nP, g3, .ref dn, rfl, dn, _, rfl, .inl (.of hdn), .ref fr, rfl, fr, dF6, fF6, rfl, g1, g5, fr, b, pl6, kd, Ws, i, (goM ws ns i).f, rfl, hF6, S6.D, by omega, R.ws, fun H7 t xs7 qs x7 hs7 ht7 pw nd mem len => ?_⟩
        refine ⟨(by show 6 ≤ sizeLine; decide), fun u nu => ?_⟩
        have xu : Ex [] H7 (upd H7 u (.tup [.str (Str.ofString "on"), pl6, .int i, .ref t1, .ref t2, .ref t])) := .new nu
        have x6u := x7.trans xu
        refine q _ _ (own (x3.trans ((y.trans x6u).mono (by simp)))) ?_
        unfold resD
        rw [if_pos (by omega), ← em]
        unfold onD
        rw [hdL_eq ⟨pw, nd, mem⟩]
        exact .tup (.of upd_same) (.cons (.str _) (.cons (tpl6.ex x6u) (.cons (.int _) (.cons (.tup (x6u.seqT (.of ht1)) (ints_all _)) (.cons (.tup (x6u.seqT (.of ht2)) (((tls3.ex y).ex x6u))) (.cons (.tup (xu.seqT hs7) (ht7.ex xu)) .nil))))))
    · obtain ⟨dx3, fs3, h1, h2⟩ := id E3.R
      obtain ⟨en, hen, sen⟩ := E3.en
      obtain ⟨ls3, hlf3, tls3⟩ := E3.lf
      obtain rfl : e = .ref en := hen
      refine ⟨.ref nw, rfl, nw, CR, dx3, fs3, .ref en, rfl, h1, T.cl, T.n6, h2.en, rfl, _, rfl, itN (by simp) ?_⟩
      refine ⟨.ref nw, rfl, nw, CR, dx3, fs3, .int ws.length, rfl, h1, T.cl, T.n3, h2.st, .ref nw, rfl, nw, CR, dx3, fs3, .ref tl, rfl, h1, T.cl, T.n4, h2.tl, tl, _, rfl, .inl ⟨.of E3.tl, fun t1 n1 => ?_⟩⟩
      have y1 : Ex [] H3 (upd H3 t1 (.tup ((goM ws ns ws.length).told.map V.int))) := .new n1
      refine ⟨.ref nw, rfl, nw, CR, dx3, fs3, .ref lf, rfl, y1.a nw _ (by simp) h1 (fun _ z => by cases z), T.cl, T.n5, h2.lf, lf, _, rfl, .inl ⟨.of (y1.lst hlf3), fun t2 n2 => ?_⟩⟩
      have y2 : Ex [] (upd H3 t1 (.tup ((goM ws ns ws.length).told.map V.int))) (upd (upd H3 t1 (.tup ((goM ws ns ws.length).told.map V.int))) t2 (.tup ls3)) := .new n2
      refine ⟨l3, fun dn n3 => ?_⟩
      have y3 : Ex [] (upd (upd H3 t1 (.tup ((goM ws ns ws.length).told.map V.int))) t2 (.tup ls3)) (upd (upd (upd H3 t1 (.tup ((goM ws ns ws.length).told.map V.int))) t2 (.tup ls3)) dn (.tup [.int ws.length, .ref t1, .ref t2])) := .new n3
      have hdn : (upd (upd (upd H3 t1 (.tup ((goM ws ns ws.length).told.map V.int))) t2 (.tup ls3)) dn (.tup [.int ws.length, .ref t1, .ref t2])) dn = some (.tup [.int ws.length, .ref t1, .ref t2]) := upd_same
      have ht1 := y3.tup (y2.tup (upd_same (H := H3) (a := t1) (o := .tup ((goM ws ns ws.length).told.map V.int))))
      have ht2 := y3.tup (upd_same (H := upd H3 t1 (.tup ((goM ws ns ws.length).told.map V.int))) (a := t2) (o := .tup ls3))
      have y := (y1.trans y2).trans y3
      generalize upd (upd (upd H3 t1 (.tup ((goM ws ns ws.length).told.map V.int))) t2 (.tup ls3)) dn (.tup [.int ws.length, .ref t1, .ref t2]) = H6 at hdn ht1 ht2 y
      have hR6 := E3.R.ex y (by simp)
      obtain ⟨dx6, fs6, h61, h62⟩ := id hR6
      refine ⟨.ref nw, rfl, nw, CR, dx6, fs6, .ref en, rfl, h61, T.cl, T.n6, h62.en, rfl, _, rfl, ?_⟩
      show if (!decide (V.ref en = V.non)) = true then _ else _
      rw [decide_eq_false (show ¬ V.ref en = V.non from fun z => by cases z), if_pos (by decide)]
      refine ⟨.ref nw, rfl, nw, CR, dx6, fs6, .ref en, rfl, h61, T.cl, T.n6, h62.en, .ref dn, rfl, ?_⟩
      refine tp_cat (K := K) (ds := [.str (Str.ofString "ended")]) (es := [.int ws.length, .tuple ((goM ws ns ws.length).told.map .int), .tuple ((goM ws ns ws.length).left ++ endL ws.length (goM ws ns ws.length).f)]) (y.seqT sen) (.of hdn) (.cons (.str _) .nil)
        (.cons (.int _) (.cons (.tup (.of ht1) (ints_all _)) (.cons (.tup (.of ht2) (tls3.ex y)) .nil))) (by simp) fun p7 H7 zs x7 hs7 ht7 => ?_
      refine q _ _ (own (x3.trans ((y.trans x7).mono (by simp)))) ?_
      unfold resD
      rw [if_neg (by omega)]
      exact .tup hs7 ht7
end
end K10

set_option maxHeartbeats 4000000
namespace Kk
open PySem PySem.Spec PyProof.Rows L2
theorem pg_tupK {X : Cx} {K : PySem.W.Frag} {es : List Expr} {k : Nat} {t : TGs} {n : Nat} {pos : Pos} (hK : X.K = K) (hc : X.calm = true) (h : PGs X es t) (hn : (assignEach es X.env).length = n := by rfl) (hst : (assignEach es X.env).findIdx? (·.1) = none := by rfl) :
    PG X (.Tuple es k pos) (gTup K n t) := by subst hK; exact pg_tup hc h hn hst
theorem tyes_if {σ : L2.St} {H : Hp} {N tb : Hp → Prop} (h : tb H) : tYes σ H (fun b H3 => if b = true then tb H3 else N H3) := by
  show (if true = true then tb H else N H)
  rw [if_pos rfl]; exact h
theorem cut_to {xs : List V} (k : Nat) : cutV xs none (some (k : Int)) = xs.take k := by
  unfold cutV
  rw [HT.sIx_none, HT.sIx_nat, List.drop_zero, Nat.sub_zero]
  by_cases h : k ≤ xs.length
  · rw [Nat.min_eq_left h]
  · rw [Nat.min_eq_right (by omega), List.take_of_length_le (Nat.le_refl _), List.take_of_length_le (by omega)]
theorem cut_fr {xs : List V} (k : Nat) : cutV xs (some (k : Int)) none = xs.drop k := by
  unfold cutV
  rw [HT.sIx_none, HT.sIx_nat]
  by_cases h : k ≤ xs.length
  · rw [Nat.min_eq_left h, List.take_of_length_le (by rw [List.length_drop]; exact Nat.le_refl _)]
  · rw [Nat.min_eq_right (by omega), List.drop_of_length_le (Nat.le_refl _), List.drop_of_length_le (by omega), List.take_nil]
theorem cut_ft {xs : List V} (i j : Nat) (h : i ≤ j) (l : j ≤ xs.length) : cutV xs (some (i : Int)) (some (j : Int)) = (xs.drop i).take (j - i) := by
  unfold cutV
  rw [HT.sIx_nat, HT.sIx_nat, Nat.min_eq_left l, Nat.min_eq_left (show i ≤ xs.length by omega)]
theorem ixN_of {n : Nat} {i : Int} (h0 : 0 ≤ i) (h1 : i < n) : ixN n i = some i.toNat := by
  unfold ixN
  rw [if_pos h0, if_pos h1]
theorem ixN0 {n : Nat} (h : 0 < n) : ixN n 0 = some 0 := ixN_of (Int.le_refl _) (by omega)
theorem mem_at3 {xs : List V} {v : Int} (h0 : 0 ≤ v) (h1 : v < xs.length) : ∃ x, x ∈ xs ∧ atI xs v = some x ∧ xs[v.toNat]? = some x := by
  have l : v.toNat < xs.length := by omega
  refine ⟨xs[v.toNat], List.getElem_mem l, ?_, List.getElem?_eq_getElem l⟩
  have := atI_nat (List.getElem?_eq_getElem l)
  rwa [Int.toNat_of_nonneg h0] at this
end Kk
namespace K10
open PySem PySem.Spec PyProof.Rows L2 Kk RZ
abbrev s_deck : Stmt := topS 39
abbrev n_deck : List Str := ["_law_script", "_law_cells", "_law_k", "_law_cell"]
theorem sc_deck : FnScope n_deck ["_law_script"] (defScope s_deck) := ⟨rfl, rfl, rfl, by decide +kernel, rfl, by decide +kernel, by decide +kernel⟩
abbrev s_draw : Stmt := topS 40
theorem sc_draw : FnScope ["_law_deck_here", "_law_most", "_law_cell", "_law_number"] ["_law_deck_here", "_law_most"] (defScope s_draw) := ⟨rfl, rfl, rfl, by decide +kernel, rfl, by decide +kernel, by decide +kernel⟩
abbrev s_some : Stmt := topS 41
theorem sc_some : FnScope ["_law_deck_here", "_law_few", "_law_most"] ["_law_deck_here", "_law_few", "_law_most"] (defScope s_some) := ⟨rfl, rfl, rfl, by decide +kernel, rfl, by decide +kernel, by decide +kernel⟩
abbrev s_oneof : Stmt := topS 44
theorem sc_oneof : FnScope ["_law_deck_here", "_law_some_here"] ["_law_deck_here", "_law_some_here"] (defScope s_oneof) := ⟨rfl, rfl, rfl, by decide +kernel, rfl, by decide +kernel, by decide +kernel⟩
abbrev s_picked : Stmt := topS 45
theorem sc_picked : FnScope ["_law_deck_here", "_law_some_here", "_law_many", "_law_rest", "_law_found", "_law_k"] ["_law_deck_here", "_law_some_here", "_law_many"] (defScope s_picked) := ⟨rfl, rfl, rfl, by decide +kernel, rfl, by decide +kernel, by decide +kernel⟩
/-- the numbers that are drawn from -/
def Deck (H : Hp) (d : Addr) : Prop := ∃ (c s : Int) (zs : List Int), H d = some (.lst (.int c :: .int s :: zs.map V.int)) ∧ zs.length ≤ 63
theorem Deck.ex {H H' : Hp} {d : Addr} {xs : List Addr} (h : Deck H d) (e : Ex xs H H') (m : d ∉ xs) : Deck H' d := by
  obtain ⟨c, s, zs, h1, h2⟩ := h
  exact ⟨c, s, zs, e.lst h1 m, h2⟩
section
variable {P : Program} {w : World} {K : PySem.W.Frag} {mg : Str → Option Value} {base : Heap}
def spDeck (K : PySem.W.Frag) : Sp := fun vs H Q _ => ∃ (s : Addr) (ns : List Int), vs = [.ref s] ∧ SqL K H s (ns.map V.int) ∧ ∀ H' p, H p = none → Ex [] H H' → Deck H' p → Q (.ref p) H'
theorem ok_deck {f : Addr} {fd : FuncData} {k : Nat} (F : Fun K "_law_deck" "_law_deck" s_deck f fd) (m_list : mg "list" = none) (m_sum : mg "sum" = none) (m_enumerate : mg "enumerate" = none) : FnOk P w K mg base CX0 (k + 1) f fd ["_law_script"] (spDeck K) := by
  refine F.ok sc_deck (fun vs H Q E h => ?_) (fun cdv A outer s H vs Q E hr h => ?_)
  · obtain ⟨s, ns, rfl, _⟩ := h; rfl
  · obtain ⟨s, ns, rfl, hS, q⟩ := h
    refine ⟨_, pss_cons (ps_set (i := 1) sc_deck.nd rfl (.inl rfl) (pe_callTy call_list_of (by rfl) m_list (by decide +kernel) (pa_cons (pe_slice sl_list (pv 0) po_none (po_some pe_int)) pa_nil)))
      (pss_one (ps_ret (pe_op op_cat (pe_lst (pa_cons pe_int (pa_cons (pe_op op_add pe_int (pe_op op_mod (pe_callB (cr_sum rfl) (by rfl) m_sum (by decide +kernel) (pa_cons (pe_lc (own := [("_law_k", 2), ("_law_cell", 3)]) (g := gTup K 2 (gCons (gName 2) (gCons (gName 3) gNil))) (tt := tYes) rfl sc_deck.nd (pi_enum (by rfl) m_enumerate (pa_cons (pv 1) pa_nil))
          (blkOk_by (N := n_deck) (sc := defScope s_deck) (by decide +kernel)) (fun _ _ _ _ _ => pg_tupK (K := K) rfl rfl (pgs_cons (pg_name (i := 2) sc_deck.nd rfl (Or.inl rfl)) (pgs_cons (pg_name (i := 3) sc_deck.nd rfl (Or.inl rfl)) pgs_nil))) (fun _ _ _ _ _ => pts_nil)
          (fun _ _ _ _ _ => pe_op op_mul (pe_op op_mod (pv 3) pe_int) (pe_op op_add (pv 2) pe_int))) pa_nil)) pe_int)) pa_nil))) (pe_revL (pv 1))))), ?_⟩
    refine ⟨.ref s, rfl, 63, rfl, s, _, rfl, hS, fun p1 n1 => ?_⟩
    have e1 : cutV (ns.map V.int) none (some 63) = (ns.take 63).map V.int := by
      rw [show (63 : Int) = ((63 : Nat) : Int) from rfl, cut_to, List.map_take]
    rw [e1]
    have x1 : Ex [] H (upd H p1 (.lst ((ns.take 63).map V.int))) := .new n1
    refine ⟨p1, _, rfl, .inl (.of upd_same), fun p2 n2 => ?_⟩
    have x2 := x1.trans (Ex.new n2 (xs := []) (o := .lst ((ns.take 63).map V.int)))
    have h2 : (upd (upd H p1 (.lst ((ns.take 63).map V.int))) p2 (.lst ((ns.take 63).map V.int))) p2 = some (.lst ((ns.take 63).map V.int)) := upd_same
    generalize upd (upd H p1 (.lst ((ns.take 63).map V.int))) p2 (.lst ((ns.take 63).map V.int)) = H2 at x2 h2 ⊢
    have lz : (ns.take 63).length ≤ 63 := by rw [List.length_take]; exact Nat.min_le_left _ _
    generalize ns.take 63 = zs at h2 lz
    refine ⟨.ref p2, rfl, p2, _, rfl, .of h2, fun D nD => ?_⟩
    have pD : p2 ≠ D := fun z => by rw [← z, h2] at nD; cases nD
    refine lc_it (walk_enum (K := K) (a := p2) (xs := zs.map V.int)) (fun j H7 => ∃ ss : List Int, H7 D = some (.lst (ss.map V.int)) ∧ ss.length ≤ j ∧ Ex [D] H2 H7) ⟨[], upd_same, Nat.le_refl _, .new nD⟩ ?_ ?_ ?_
    · rintro j H7 _ ⟨ss, _, _, x7⟩
      exact .of (x7.lst h2 (by simpa using pD))
    · rintro j y H7 H8 hj ⟨ss, hss, ls, x7⟩ ⟨TQ, y1', y2', rfl, nTQ, rfl, hy1, hy2⟩
      cases hy1
      have hy2 : (zs.map V.int)[j]? = some y2' := hy2
      rw [List.getElem?_map] at hy2
      cases hzj : zs[j]? with
      | none => rw [hzj] at hy2; cases hy2
      | some z =>
        rw [hzj] at hy2
        cases hy2
        have wQ : Ex [] H7 (upd H7 TQ (.tup [.int (j : Nat), .int z])) := .new nTQ
        refine ⟨TQ, _, rfl, .of upd_same, rfl, _, _, rfl, _, _, rfl, rfl, rfl, tyes_if ?_⟩
        rw [List.length_map] at hj
        refine ⟨.int z, rfl, z, 1000003, rfl, rfl, (by show (0 : Int) < 1000003; decide), .int (j : Nat), rfl, j, 1, rfl, rfl, _, _, rfl, rfl, .inr ⟨by omega, by omega⟩, ss.map V.int, wQ.lst hss, by rw [List.length_map, sizeLine_eq]; omega, ss ++ [z % 1000003 * ((j : Int) + 1)], ?_, by rw [List.length_append, List.length_singleton]; omega, ?_⟩
        · rw [upd_same, List.map_append]; rfl
        · exact (x7.trans (wQ.mono (by simp))).trans (.put (wQ.lst hss) nt_lst (by simp))
    · rintro H7 ⟨ss, hss, ls, x7⟩
      have x27 : Ex [] H H7 := Ex.own (x2.f _ nD) x2 x7
      refine ⟨D, ss, rfl, .of hss, _, 2147483629, rfl, rfl, (by show (0 : Int) < 2147483629; decide), 7, _, rfl, rfl, (by show 2 ≤ sizeLine; decide), fun p3 n3 => ?_⟩
      have x3 : Ex [] H7 (upd H7 p3 (.lst [.int 0, .int (7 + ss.sum % 2147483629)])) := .new n3
      have h27 := x3.lst (x7.lst h2 (by simpa using pD))
      refine ⟨.ref p2, rfl, p2, _, rfl, .of h27, fun p4 n4 => ?_⟩
      have x4 : Ex [] (upd H7 p3 (.lst [.int 0, .int (7 + ss.sum % 2147483629)])) (upd (upd H7 p3 (.lst [.int 0, .int (7 + ss.sum % 2147483629)])) p4 (.lst (zs.map V.int).reverse)) := .new n4
      refine ⟨p3, p4, _, _, rfl, rfl, x4.lst upd_same, upd_same, ?_, fun p5 n5 => ?_⟩
      · rw [List.length_reverse, List.length_map, sizeLine_eq]
        show 2 + zs.length ≤ _
        omega
      · refine q _ p5 (x27.f _ (x3.f _ (x4.f _ n5))) (x27.trans ((x3.trans x4).trans (.new n5))) ⟨0, 7 + ss.sum % 2147483629, zs.reverse, ?_, by rw [List.length_reverse]; exact lz⟩
        rw [upd_same, ← List.map_reverse]; rfl
def spDraw : Sp := fun vs H Q _ => ∃ (d : Addr) (m : Int), vs = [.ref d, .int m] ∧ Deck H d ∧ 0 < m ∧ m < 1000000 ∧ ∀ H' v, 0 ≤ v → v < m → Ex [d] H H' → Deck H' d → Q (.int v) H'
theorem ok_draw {f : Addr} {fd : FuncData} {k : Nat} (F : Fun K "_law_draw" "_law_draw" s_draw f fd) (m_len : mg "len" = none) : FnOk P w K mg base CX0 (k + 1) f fd ["_law_deck_here", "_law_most"] spDraw := by
  refine F.ok sc_draw (fun vs H Q E h => ?_) (fun cdv A outer s H vs Q E hr h => ?_)
  · obtain ⟨d, m, rfl, _⟩ := h; rfl
  · obtain ⟨d, m, rfl, ⟨c, s0, zs, hd, lz⟩, hm, hm2, q⟩ := h
    refine ⟨_, (pss_cons (ps_asg (pe_op op_add (pe_ix ix_list (pv 0) pe_int (fun _ _ => rfl)) pe_int) (pg_sub (pv 0) pe_int set_list))
      (pss_cons (ps_set (i := 2) sc_draw.nd rfl (.inl rfl) (pe_op op_add (pe_ix ix_list (pv 0) pe_int (fun _ _ => rfl)) (pe_op op_mul pe_int (pe_ix ix_list (pv 0) pe_int (fun _ _ => rfl)))))
      (pss_cons (ps_if (pt_cmpR op_gt (pe_callB call_len_seq (by rfl) m_len PySem.boot_len (pa_cons (pv 0) pa_nil)) pe_int (nomark _)) (pss_cons (ps_set (i := 2) sc_draw.nd rfl (.inl rfl) (pe_bm0 PySem.F.plainAttrs_list PySem.F.slot_list_pop PySem.F.type_list_pop mt_pop (pv 0)))
      (pss_one (ps_if (pt_cmpR op_ge (pv 2) (pe_op op_pow pe_int pe_int) (nomark _)) (pss_cons (ps_expr (pe_bm PySem.F.plainAttrs_list PySem.F.slot_list_append PySem.F.type_list_append mt_append (pv 0) (pa_cons (pe_op op_fdiv (pv 2) (pv 1)) pa_nil)))
      (pss_one (ps_ret (pe_op op_mod (pv 2) (pv 1))))) pss_nil))) pss_nil)
      (pss_cons (ps_set (i := 3) sc_draw.nd rfl (.inl rfl) (pe_op op_mod (pe_op op_mul (pe_op op_add (pe_op op_mod (pv 2) pe_int) (pe_op op_mul pe_int (pe_ix ix_list (pv 0) pe_int (fun _ _ => rfl)))) pe_int) pe_int))
      (pss_cons (ps_set (i := 3) sc_draw.nd rfl (.inl rfl) (pe_op op_mod (pe_op op_add (pe_op op_add (pe_op op_mul (pv 3) (pv 3)) (pe_op op_mul pe_int (pv 3))) (pe_ix ix_list (pv 0) pe_int (fun _ _ => rfl))) pe_int))
      (pss_one (ps_ret (pe_op op_mod (pe_op op_fdiv (pv 3) pe_int) (pv 1))))))))), ?_⟩
    refine ⟨.ref d, rfl, d, _, 0, .int c, rfl, rfl, .of hd, at0, c, 1, rfl, rfl, .ref d, rfl, d, _, 0, 0, rfl, rfl, hd, ixN0 (Nat.succ_pos _), ?_⟩
    have x1 : Ex [d] H (upd H d (.lst (.int (c + 1) :: .int s0 :: zs.map V.int))) := .put hd nt_lst (by simp)
    have h1 : (upd H d (.lst (.int (c + 1) :: .int s0 :: zs.map V.int))) d = some (.lst (.int (c + 1) :: .int s0 :: zs.map V.int)) := upd_same
    show _
    generalize hH1 : upd H d (.lst (.int (c + 1) :: .int s0 :: zs.map V.int)) = H1 at x1 h1
    have hH1' : upd H d (.lst (List.set (.int c :: .int s0 :: zs.map V.int) 0 (.int (c + 1)))) = H1 := hH1
    rw [hH1']
    clear hH1 hH1'
    refine ⟨.ref d, rfl, d, _, 1, .int s0, rfl, rfl, .of h1, at1, .ref d, rfl, d, _, 0, .int (c + 1), rfl, rfl, .of h1, at0, 104729, c + 1, rfl, rfl, .inl ⟨by decide, by decide⟩, s0, _, rfl, rfl, ?_⟩
    -- the last part, by any cell
    have fin : ∀ (H2 : Hp) (zs2 : List Int) (cell : Int), Ex [d] H H2 → H2 d = some (.lst (.int (c + 1) :: .int s0 :: zs2.map V.int)) → zs2.length ≤ 63 → ∀ v : Int, 0 ≤ v → v < m → Q (.int v) H2 := fun H2 zs2 cell x2 h2 l2 v v0 v1 => q H2 v v0 v1 x2 ⟨_, _, _, h2, l2⟩
    have num : ∀ (H2 : Hp) (zs2 : List Int) (cell : Int), Ex [d] H H2 → H2 d = some (.lst (.int (c + 1) :: .int s0 :: zs2.map V.int)) → zs2.length ≤ 63 →
        ((cell % 2147483629 + 7919 * (c + 1)) * 48271 % 2147483647 * ((cell % 2147483629 + 7919 * (c + 1)) * 48271 % 2147483647) + 69621 * ((cell % 2147483629 + 7919 * (c + 1)) * 48271 % 2147483647) + (c + 1)) % 2147483587 / 64 % m = ((cell % 2147483629 + 7919 * (c + 1)) * 48271 % 2147483647 * ((cell % 2147483629 + 7919 * (c + 1)) * 48271 % 2147483647) + 69621 * ((cell % 2147483629 + 7919 * (c + 1)) * 48271 % 2147483647) + (c + 1)) % 2147483587 / 64 % m → Q (.int (((cell % 2147483629 + 7919 * (c + 1)) * 48271 % 2147483647 * ((cell % 2147483629 + 7919 * (c + 1)) * 48271 % 2147483647) + 69621 * ((cell % 2147483629 + 7919 * (c + 1)) * 48271 % 2147483647) + (c + 1)) % 2147483587 / 64 % m)) H2 := fun H2 zs2 cell x2 h2 l2 _ =>
      fin H2 zs2 cell x2 h2 l2 _ (Int.emod_nonneg _ (by omega)) (Int.emod_lt_of_pos _ hm)
    have zb : ∀ cell : Int, -(2 ^ 64) < (cell % 2147483629 + 7919 * (c + 1)) * 48271 % 2147483647 ∧ (cell % 2147483629 + 7919 * (c + 1)) * 48271 % 2147483647 < 2 ^ 64 := fun cell =>
      ⟨Int.lt_of_lt_of_le (by decide) (Int.emod_nonneg _ (by decide)), Int.lt_trans (Int.emod_lt_of_pos _ (by decide)) (by decide)⟩
    refine ⟨.ref d, rfl, d, _, rfl, .inl (.of h1), _, 2, rfl, rfl, _, rfl, ite2 (fun e => ?_) (fun e => ?_)⟩
    · have ne : zs ≠ [] := fun z => by
        rw [z] at e
        exact absurd (of_decide_eq_true e) (show ¬ (2 : Int) < 2 by decide)
      obtain ⟨ys, y, rfl⟩ : ∃ ys y, zs = ys ++ [y] := ⟨zs.dropLast, zs.getLast ne, (List.dropLast_concat_getLast ne).symm⟩
      have ly : ys.length + 1 ≤ 63 := by rw [List.length_append] at lz; exact lz
      refine ⟨.ref d, rfl, .inl ⟨rfl, _, .of h1⟩, d, _, .int y, rfl, rfl, h1, ?_, ?_⟩
      · rw [List.map_append]
        show (V.int (c + 1) :: .int s0 :: (ys.map V.int ++ [.int y]))[(V.int (c + 1) :: .int s0 :: (ys.map V.int ++ [.int y])).length - 1]? = _
        rw [show (V.int (c + 1) :: .int s0 :: (ys.map V.int ++ [.int y])) = (V.int (c + 1) :: .int s0 :: ys.map V.int) ++ [.int y] from rfl, List.length_append, List.length_singleton, Nat.add_sub_cancel, List.getElem?_append_right (Nat.le_refl _), Nat.sub_self]; rfl
      have ed : (V.int (c + 1) :: .int s0 :: (ys ++ [y]).map V.int).dropLast = .int (c + 1) :: .int s0 :: ys.map V.int := by
        rw [List.map_append, show (V.int (c + 1) :: V.int s0 :: (ys.map V.int ++ [y].map V.int)) = (V.int (c + 1) :: .int s0 :: ys.map V.int) ++ [.int y] from rfl, List.dropLast_concat]
      have x2 : Ex [d] H1 (upd H1 d (.lst (V.int (c + 1) :: .int s0 :: (ys ++ [y]).map V.int).dropLast)) := .put h1 nt_lst (by simp)
      have h2 : (upd H1 d (.lst (V.int (c + 1) :: .int s0 :: (ys ++ [y]).map V.int).dropLast)) d = some (.lst (.int (c + 1) :: .int s0 :: ys.map V.int)) := by rw [upd_same, ed]
      generalize upd H1 d (.lst (V.int (c + 1) :: .int s0 :: (ys ++ [y]).map V.int).dropLast) = H2 at x2 h2 ⊢
      refine ⟨.int y, rfl, 10, 18, rfl, rfl, ⟨by decide, by decide, by decide⟩, y, _, rfl, rfl, _, rfl, ite2 (fun e2 => ?_) fun e2 => ?_⟩
      · refine ⟨.ref d, rfl, .inl ⟨rfl, _, .of h2⟩, .int y, rfl, .int m, rfl, y, m, rfl, rfl, ⟨hm, by omega⟩, d, _, _, rfl, rfl, h2, ?_, ?_⟩
        · show (ys.map V.int).length + 1 + 1 < sizeLine
          rw [List.length_map, sizeLine_eq]; omega
        refine ⟨.int y, rfl, .int m, rfl, y, m, rfl, rfl, hm, ?_⟩
        refine fin _ (ys ++ [y / m]) y ((x1.trans x2).trans (.put h2 nt_lst (by simp))) ?_ (by rw [List.length_append]; exact ly) _ (Int.emod_nonneg _ (by omega)) (Int.emod_lt_of_pos _ hm)
        rw [upd_same, List.map_append]; rfl
      · refine ⟨.int y, rfl, y, 2147483629, rfl, rfl, (by show (0 : Int) < 2147483629; decide), .ref d, rfl, d, _, 0, .int (c + 1), rfl, rfl, .of h2, at0, 7919, c + 1, rfl, rfl, .inl ⟨by decide, by decide⟩, _, _, rfl, rfl, _, 48271, rfl, rfl, .inr ⟨by decide, by decide⟩, _, 2147483647, rfl, rfl, (by show (0 : Int) < 2147483647; decide), ?_⟩
        refine ⟨_, rfl, _, rfl, _, _, rfl, rfl, .inl (zb y), _, rfl, 69621, _, rfl, rfl, .inl ⟨by decide, by decide⟩, _, _, rfl, rfl, .ref d, rfl, d, _, 0, .int (c + 1), rfl, rfl, .of h2, at0, _, _, rfl, rfl, _, 2147483587, rfl, rfl, (by show (0 : Int) < 2147483587; decide), ?_⟩
        refine ⟨_, rfl, _, 64, rfl, rfl, ⟨by decide, by decide⟩, .int m, rfl, _, m, rfl, rfl, hm, ?_⟩
        exact num H2 ys y (x1.trans x2) h2 (by omega) rfl
    · refine ⟨_, rfl, _, 2147483629, rfl, rfl, (by show (0 : Int) < 2147483629; decide), .ref d, rfl, d, _, 0, .int (c + 1), rfl, rfl, .of h1, at0, 7919, c + 1, rfl, rfl, .inl ⟨by decide, by decide⟩, _, _, rfl, rfl, _, 48271, rfl, rfl, .inr ⟨by decide, by decide⟩, _, 2147483647, rfl, rfl, (by show (0 : Int) < 2147483647; decide), ?_⟩
      refine ⟨_, rfl, _, rfl, _, _, rfl, rfl, .inl (zb _), _, rfl, 69621, _, rfl, rfl, .inl ⟨by decide, by decide⟩, _, _, rfl, rfl, .ref d, rfl, d, _, 0, .int (c + 1), rfl, rfl, .of h1, at0, _, _, rfl, rfl, _, 2147483587, rfl, rfl, (by show (0 : Int) < 2147483587; decide), ?_⟩
      refine ⟨_, rfl, _, 64, rfl, rfl, ⟨by decide, by decide⟩, .int m, rfl, _, m, rfl, rfl, hm, ?_⟩
      exact num H1 zs _ x1 h1 lz rfl
def spSome : Sp := fun vs H Q _ => ∃ (d : Addr) (a b : Nat), vs = [.ref d, .int a, .int b] ∧ Deck H d ∧ a < 1000 ∧ ∀ H' (v : Nat), (v ≤ a ∨ v = b) → Ex [d] H H' → Deck H' d → Q (.int v) H'
theorem ok_some {f f1 : Addr} {fd d1 : FuncData} {k : Nat} (F : Fun K "_law_some" "_law_some" s_some f fd) (C__law_draw : Cl P w K mg base k "_law_draw" ["_law_deck_here", "_law_most"] spDraw f1 d1) (m_int : mg "int" = none) : FnOk P w K mg base CX0 (k + 1) f fd ["_law_deck_here", "_law_few", "_law_most"] spSome := by
  refine F.ok sc_some (fun vs H Q E h => ?_) (fun cdv A outer s H vs Q E hr h => ?_)
  · obtain ⟨d, a, b, rfl, _⟩ := h; rfl
  · obtain ⟨d, a, b, rfl, hD, ha, q⟩ := h
    refine ⟨_, (pss_one (ps_ret (pe_ix ix_list (pe_lst (pa_cons (pe_call C__law_draw.g hr (by rfl) C__law_draw.m C__law_draw.k C__law_draw.b .nil pass0 (pa_cons (pv 0) (pa_cons (pe_op op_add (pv 1) pe_int) pa_nil))) (pa_cons (pv 2) pa_nil))) (pe_callTy call_int1 (by rfl) m_int (by decide +kernel) (pa_cons (pe_cmpR op_eq (pe_call C__law_draw.g hr (by rfl) C__law_draw.m C__law_draw.k C__law_draw.b .nil pass0 (pa_cons (pv 0) (pa_cons pe_int pa_nil))) pe_int (nomark _)) pa_nil)) (fun _ _ => rfl)))), ?_⟩
    refine ⟨.ref d, rfl, .int a, rfl, a, 1, rfl, rfl, d, _, rfl, hD, by omega, by omega, fun H1 v v0 v1 x1 D1 => ?_⟩
    refine ⟨.int b, rfl, l2, fun p np => ?_⟩
    have xp : Ex [] H1 (upd H1 p (.lst [.int v, .int b])) := .new np
    have dp : d ≠ p := fun z => by
      obtain ⟨c, s, zs, h, _⟩ := D1
      rw [z, np] at h; cases h
    refine ⟨.ref d, rfl, d, 8, rfl, D1.ex xp (by simp), by decide, by decide, fun H2 u u0 u1 x2 D2 => ?_⟩
    have hp2 : H2 p = some (.lst [.int v, .int b]) := x2.lst upd_same (by simpa using dp.symm)
    refine ⟨rfl, .inr ⟨_, rfl, ?_⟩⟩
    obtain ⟨va, hva⟩ : ∃ va : Nat, v = va := ⟨v.toNat, by omega⟩
    have x : Ex [d] H H2 := (x1.trans (xp.mono (by simp))).trans x2
    by_cases e : V.int u = V.int 1
    · rw [decide_eq_true e]
      exact ⟨p, _, 1, .int b, rfl, rfl, .of hp2, rfl, q H2 b (.inr rfl) x D2⟩
    · rw [decide_eq_false e]
      refine ⟨p, _, 0, .int v, rfl, rfl, .of hp2, rfl, ?_⟩
      rw [hva]
      exact q H2 va (.inl (by omega)) x D2
def spOneOf (K : PySem.W.Frag) : Sp := fun vs H Q _ => ∃ (d l : Addr) (xs : List V), vs = [.ref d, .ref l] ∧ Deck H d ∧ H l = some (.lst xs) ∧ l ≠ d ∧ xs ≠ [] ∧ xs.length ≤ 1000 ∧ ∀ H' v, v ∈ xs → Ex [d] H H' → Deck H' d → Q v H'
theorem ok_oneof {f f1 : Addr} {fd d1 : FuncData} {k : Nat} (F : Fun K "_law_one_of" "_law_one_of" s_oneof f fd) (C__law_draw : Cl P w K mg base k "_law_draw" ["_law_deck_here", "_law_most"] spDraw f1 d1) (m_len : mg "len" = none) : FnOk P w K mg base CX0 (k + 1) f fd ["_law_deck_here", "_law_some_here"] (spOneOf K) := by
  refine F.ok sc_oneof (fun vs H Q E h => ?_) (fun cdv A outer s H vs Q E hr h => ?_)
  · obtain ⟨d, l, xs, rfl, _⟩ := h; rfl
  · obtain ⟨d, l, xs, rfl, hD, hl, ld, x0, xl, q⟩ := h
    refine ⟨_, (pss_one (ps_ret (pe_ix ix_list (pv 1) (pe_call C__law_draw.g hr (by rfl) C__law_draw.m C__law_draw.k C__law_draw.b .nil pass0 (pa_cons (pv 0) (pa_cons (pe_callB call_len_seq (by rfl) m_len PySem.boot_len (pa_cons (pv 1) pa_nil)) pa_nil))) (fun _ _ => rfl)))), ?_⟩
    have hlen : 1 ≤ xs.length := List.length_pos_iff.mpr x0
    refine ⟨.ref l, rfl, .ref d, rfl, .ref l, rfl, l, xs, rfl, .inl (.of hl), d, _, rfl, hD, by omega, by omega, fun H' v v0 v1 e0 d2 => ?_⟩
    obtain ⟨z, hz, hz2, _⟩ := mem_at3 v0 v1
    exact ⟨l, xs, v, z, rfl, rfl, .of (e0.lst hl (by simpa using ld)), hz2, q H' z hz e0 d2⟩
end
end K10

set_option maxHeartbeats 4000000
namespace K10
open PySem PySem.Spec PyProof.Rows L2 Kk RZ
abbrev s_names : Stmt := topS 42
abbrev n_names : List Str := ["_law_deck_here", "_law_many", "_law_letters", "_law_k", "_law_base", "_law_at", "_law_first", "_law_found"]
theorem sc_names : FnScope n_names ["_law_deck_here", "_law_many"] (defScope s_names) := ⟨rfl, rfl, rfl, by decide +kernel, rfl, by decide +kernel, by decide +kernel⟩
def abc : Str := Str.ofString "abcdefghijklmnopqrstuvwxyz"
/-- the text of one sign -/
def sg (c : Nat) : Str := ⟨#[c]⟩
/-- a name: small letters, at most eight; its last is no k -/
structure NmG (z : Str) : Prop where
  abc : ∀ c ∈ TL.tl z, c ∈ abc.cps.toList
  lo : 1 ≤ z.length
  hi : z.length ≤ 8
  nk : (TL.tl z).getLast? ≠ some 107
theorem abc_at (v : Int) (h0 : 0 ≤ v) (h1 : v < 26) : ∃ c, atI abc.cps.toList v = some c ∧ c ∈ abc.cps.toList ∧ abc.cps.toList[v.toNat]? = some c := by
  have hl : abc.cps.toList.length = 26 := by decide +kernel
  have h2 : v.toNat < abc.cps.toList.length := by omega
  refine ⟨abc.cps.toList[v.toNat], ?_, List.getElem_mem _, List.getElem?_eq_getElem h2⟩
  have := atI_nat (List.getElem?_eq_getElem h2)
  rwa [Int.toNat_of_nonneg h0] at this
theorem sg_sum : ∀ cl : List Nat, ((cl.map sg).map (·.length)).sum = cl.length
  | [] => rfl
  | c :: cl => by
    rw [List.map_cons, List.map_cons, List.sum_cons, sg_sum cl, List.length_cons]
    show 1 + cl.length = cl.length + 1
    omega
theorem join_sg (cl : List Nat) : TL.tl (Txt.join (Str.ofString "") (cl.map sg)) = cl := by
  rw [TL.join_eq, TL.tl_join]
  have e : TL.tl (Str.ofString "") = [] := by decide +kernel
  rw [e]
  induction cl with
  | nil => rfl
  | cons c r ih =>
    cases r with
    | nil => rfl
    | cons c2 r2 =>
      simp only [List.map_cons, TL.joinL, List.nil_append] at ih ⊢
      rw [ih]; rfl
theorem mul01 {z : Str} {n : Int} (h0 : 0 ≤ n) (h1 : n ≤ 1) : MulOk z n ∧ (Txt.mul z n = Str.empty ∨ Txt.mul z n = z) := by
  have hc : n = 0 ∨ n = 1 := by omega
  rcases hc with rfl | rfl
  · refine ⟨⟨by decide, fun h => absurd (by decide) h, fun h => absurd (by decide) h⟩, .inl ?_⟩
    unfold Txt.mul; rw [if_pos (by decide)]
  · refine ⟨⟨by decide, fun _ h => ?_, fun _ h => ?_⟩, .inr ?_⟩
    · simp at h
    · simp at h
    · unfold Txt.mul; rw [if_neg (by decide), if_pos (by simp)]
theorem zs_ok {n : Int} (h0 : 0 ≤ n) (h1 : n ≤ 1) : TL.tl (Txt.mul (Str.ofString "z") n) = [] ∨ TL.tl (Txt.mul (Str.ofString "z") n) = [122] := by
  rcases (mul01 (z := Str.ofString "z") h0 h1).2 with e | e <;> rw [e]
  · exact .inl (by decide +kernel)
  · exact .inr (by decide +kernel)
theorem len_add (a b : Str) : (a ++ b).length = a.length + b.length := by rw [TL.len_tl, TL.tl_append, List.length_append, ← TL.len_tl, ← TL.len_tl]
theorem abc_inj {i j : Nat} (hi : i < 26) (hj : j < 26) (e : abc.cps.toList[i]? = abc.cps.toList[j]?) : i = j := by
  have nd : abc.cps.toList.Nodup := by decide +kernel
  have hl : abc.cps.toList.length = 26 := by decide +kernel
  rw [List.getElem?_eq_getElem (by omega), List.getElem?_eq_getElem (by omega)] at e
  exact (List.getElem_inj nd).mp (Option.some.inj e)
def w8 : List Str := [Str.ofString "same", Str.ofString "way", Str.ofString "left", Str.ofString "far", Str.ofString "twice", Str.ofString "unread", Str.ofString "ended", Str.ofString "on"]
theorem w8_ok : ∀ z ∈ w8, (∀ c ∈ TL.tl z, c ∈ abc.cps.toList) ∧ 1 ≤ z.length ∧ z.length ≤ 8 ∧ (TL.tl z).getLast? ≠ some 107 ∧ (TL.tl z).getLast? ≠ some 113 ∧ (TL.tl z).getLast? ≠ some 122 := by decide +kernel
/-- what a drawn name's signs are -/
theorem name_tl (cl : List Nat) {n : Int} (h0 : 0 ≤ n) (h1 : n ≤ 1) : ∃ zs, (zs = [] ∨ zs = [122]) ∧ TL.tl (Txt.join (Str.ofString "") (cl.map sg) ++ Str.ofString "q" ++ Txt.mul (Str.ofString "z") n) = cl ++ 113 :: zs := by
  refine ⟨_, zs_ok h0 h1, ?_⟩
  rw [TL.tl_append, TL.tl_append, join_sg, show TL.tl (Str.ofString "q") = [113] by decide +kernel]
  simp
theorem name_last {cl zs : List Nat} (hz : zs = [] ∨ zs = [122]) : (cl ++ 113 :: zs).getLast? = some 113 ∨ (cl ++ 113 :: zs).getLast? = some 122 := by
  rcases hz with rfl | rfl
  · exact .inl (by simp)
  · exact .inr (by simp)
theorem name_ok {cl : List Nat} {n : Int} (h0 : 0 ≤ n) (h1 : n ≤ 1) (hl2 : cl.length ≤ 5) (hc : ∀ c ∈ cl, c ∈ abc.cps.toList) : NmG (Txt.join (Str.ofString "") (cl.map sg) ++ Str.ofString "q" ++ Txt.mul (Str.ofString "z") n) := by
  obtain ⟨zs, hz, e⟩ := name_tl cl h0 h1
  have hzl : zs.length ≤ 1 := by rcases hz with rfl | rfl <;> simp
  refine ⟨fun c m => ?_, ?_, ?_, ?_⟩
  · rw [e] at m
    rcases List.mem_append.mp m with m | m
    · exact hc c m
    · rcases List.mem_cons.mp m with m | m
      · rw [m]; decide +kernel
      · rcases hz with rfl | rfl
        · cases m
        · rw [List.mem_singleton.mp m]; decide +kernel
  · rw [TL.len_tl, e, List.length_append, List.length_cons]; omega
  · rw [TL.len_tl, e, List.length_append, List.length_cons]; omega
  · rw [e]
    rcases name_last (cl := cl) hz with z | z <;> rw [z] <;> decide
theorem map_erase (ls : List Str) (i : Nat) : (ls.map V.str).eraseIdx i = (ls.eraseIdx i).map V.str := by
  induction ls generalizing i with
  | nil => rfl
  | cons x ls ih =>
    cases i with
    | zero => rfl
    | succ i => simp only [List.map_cons, List.eraseIdx_cons_succ, ih]
theorem erase_perm : ∀ (l : List Str) (i : Nat) (h : i < l.length), (l[i] :: l.eraseIdx i).Perm l
  | x :: l, 0, _ => List.Perm.refl _
  | x :: l, i + 1, h => by
    have := erase_perm l i (by simpa using h)
    simp only [List.getElem_cons_succ, List.eraseIdx_cons_succ]
    exact (List.Perm.swap _ _ _).trans (List.Perm.cons _ this)
theorem nodup_set {l : List Str} {i : Nat} {z : Str} (nd : l.Nodup) (nz : z ∉ l) : (l.set i z).Nodup := by
  rw [List.Nodup, List.pairwise_iff_getElem] at nd ⊢
  intro a b ha hb hab e
  rw [List.length_set] at ha hb
  rw [List.getElem_set, List.getElem_set] at e
  split at e
  · split at e
    · omega
    · exact nz (by rw [e]; exact List.getElem_mem _)
  · split at e
    · exact nz (by rw [← e]; exact List.getElem_mem _)
    · exact nd a b ha hb hab e
section
variable {P : Program} {w : World} {K : PySem.W.Frag} {mg : Str → Option Value} {base : Heap}
def spNames : Sp := fun vs H Q _ => ∃ (d : Addr) (m : Nat), vs = [.ref d, .int m] ∧ Deck H d ∧ 1 ≤ m ∧ m ≤ 26 ∧
  ∀ H' p (ws : List Str), H p = none → Ex [d] H H' → Deck H' d → H' p = some (.lst (ws.map V.str)) → ws.length = m → (∀ z ∈ ws, NmG z) → ws.Nodup → Q (.ref p) H'
theorem ok_names {f fD : Addr} {fd fdD : FuncData} {k : Nat} (F : Fun K "_law_names" "_law_names" s_names f fd) (C__law_draw : Cl P w K mg base k "_law_draw" ["_law_deck_here", "_law_most"] spDraw fD fdD) (m_len : mg "len" = none) (m_range : mg "range" = none) : FnOk P w K mg base CX0 (k + 1) f fd ["_law_deck_here", "_law_many"] spNames := by
  refine F.ok sc_names (fun vs H Q E h => ?_) (fun cdv A outer s H vs Q E hr h => ?_)
  · obtain ⟨d, m, rfl, _⟩ := h; rfl
  · obtain ⟨d, m, rfl, hD, hm1, hm, q⟩ := h
    refine ⟨_, (pss_cons (ps_set (i := 2) sc_names.nd rfl (.inr rfl) pe_str)
      (pss_cons (ps_setLc (i := 4) (own := [("_law_k", 3)]) (g := gName 3) (tt := tYes) rfl sc_names.nd rfl rfl (sw_true rfl rfl rfl (by decide +kernel)) (pi_range1 (by rfl) m_range (pa_cons (pe_op op_add pe_int (pe_call C__law_draw.g hr (by rfl) C__law_draw.m C__law_draw.k C__law_draw.b .nil pass0 (pa_cons (pv 0) (pa_cons pe_int pa_nil)))) pa_nil)) (blkOk_by (N := n_names) (sc := defScope s_names) (by decide +kernel)) (fun _ _ _ _ _ => pg_name (i := 3) sc_names.nd rfl (Or.inl rfl)) (fun _ _ _ _ _ => pts_nil) (fun _ _ _ _ _ => (pe_ix ix_str (pv 2) (pe_call C__law_draw.g hr (by rfl) C__law_draw.m C__law_draw.k C__law_draw.b .nil pass0 (pa_cons (pv 0) (pa_cons pe_int pa_nil))) (fun _ _ => rfl))))
      (pss_cons (ps_set (i := 5) sc_names.nd rfl (.inl rfl) (pe_call C__law_draw.g hr (by rfl) C__law_draw.m C__law_draw.k C__law_draw.b .nil pass0 (pa_cons (pv 0) (pa_cons (pe_callB call_len_seq (by rfl) m_len PySem.boot_len (pa_cons (pv 4) pa_nil)) pa_nil))))
      (pss_cons (ps_set (i := 6) sc_names.nd rfl (.inl rfl) (pe_call C__law_draw.g hr (by rfl) C__law_draw.m C__law_draw.k C__law_draw.b .nil pass0 (pa_cons (pv 0) (pa_cons pe_int pa_nil))))
      (pss_cons (ps_set (i := 7) sc_names.nd rfl (.inl rfl) (pe_lst pa_nil))
      (pss_cons (ps_for PassesOwn.never rfl (pi_range1 (by rfl) m_range (pa_cons (pv 1) pa_nil)) (pg_name (i := 3) sc_names.nd rfl (.inl rfl)) (pss_cons (ps_asg (pe_ix ix_str (pv 2) (pe_op op_mod (pe_op op_add (pv 6) (pv 3)) pe_int) (fun _ _ => rfl)) (pg_sub (pv 4) (pv 5) set_list))
      (pss_one (ps_expr (pe_bm PySem.F.plainAttrs_list PySem.F.slot_list_append PySem.F.type_list_append mt_append (pv 7) (pa_cons (pe_op op_add_str (pe_op op_add_str (pe_join pe_str (pv 4)) pe_str) (pe_op op_mul_str pe_str (pe_op op_mod (pv 3) pe_int))) pa_nil))))))
      (pss_cons (ps_if (pt_cmpR op_eq (pe_call C__law_draw.g hr (by rfl) C__law_draw.m C__law_draw.k C__law_draw.b .nil pass0 (pa_cons (pv 0) (pa_cons pe_int pa_nil))) pe_int (nomark _)) (pss_one (ps_asg (pe_ix ix_list (pe_lst (pa_cons pe_str (pa_cons pe_str (pa_cons pe_str (pa_cons pe_str (pa_cons pe_str (pa_cons pe_str (pa_cons pe_str (pa_cons pe_str pa_nil))))))))) (pe_op op_mod (pv 6) pe_int) (fun _ _ => rfl)) (pg_sub (pv 7) (pe_call C__law_draw.g hr (by rfl) C__law_draw.m C__law_draw.k C__law_draw.b .nil pass0 (pa_cons (pv 0) (pa_cons (pv 1) pa_nil))) set_list))) pss_nil)
      (pss_one (ps_ret (pv 7)))))))))), ?_⟩
    have dne : ∀ {H9 : Hp} {B : Addr}, Deck H9 d → H9 B = none → d ≠ B := fun ⟨c, s, zs, h, _⟩ n z => by rw [z, n] at h; cases h
    refine ⟨.ref d, rfl, d, 5, rfl, hD, by decide, by decide, fun H1 v hv0 hv1 x1 D1 => ?_⟩
    refine ⟨1, v, rfl, rfl, 1 + v, rfl, by omega, by omega, fun B nB => ?_⟩
    have nB0 : H B = none := x1.f B nB
    have dB : d ≠ B := dne D1 nB
    refine lc_range (lo := 0) (n := (1 + v).toNat) (fun i H2 => ∃ cl : List Nat, H2 B = some (.lst ((cl.map sg).map V.str)) ∧ cl.length = i ∧ (∀ c ∈ cl, c ∈ abc.cps.toList) ∧ Ex [d] H H2 ∧ Deck H2 d) ?_ ?_ ?_
    · exact ⟨[], upd_same, rfl, by simp, x1.trans (.new nB), D1.ex (.new nB (xs := [])) (by simp)⟩
    · intro i H2 hi ⟨cl, hB, hbl, hbs, x2, D2⟩
      refine ⟨rfl, ?_⟩
      refine ⟨.str abc, rfl, .ref d, rfl, d, 26, rfl, D2, by decide, by decide, fun H3 u hu0 hu1 x3 D3 => ?_⟩
      obtain ⟨c, hc1, hc2, _⟩ := abc_at u hu0 hu1
      have hB3 := x3.lst hB (by simpa using dB.symm)
      refine ⟨abc, u, c, rfl, rfl, by decide, hc1, (cl.map sg).map V.str, hB3, by rw [List.length_map, List.length_map]; exact Nat.lt_of_le_of_lt (show cl.length ≤ 10 by omega) (by decide), ?_⟩
      refine ⟨cl ++ [c], by rw [upd_same, List.map_append, List.map_append]; rfl, by rw [List.length_append, hbl]; rfl, fun b hb => ?_, Ex.own nB0 (x2.trans x3) (.put hB3 nt_lst (by simp)), D3.ex (.put (xs := [B]) hB3 nt_lst (by simp)) (by simpa using dB)⟩
      rcases List.mem_append.mp hb with z | z
      · exact hbs b z
      · rw [List.mem_singleton.mp z]; exact hc2
    · intro H2 ⟨bs, hB, hbl, hbs, x2, D2⟩
      have hl : 1 ≤ bs.length ∧ bs.length ≤ 5 := by omega
      refine ⟨.ref d, rfl, .ref B, rfl, B, _, rfl, .inl (.of hB), d, ((bs.map sg).map V.str).length, rfl, D2, by rw [List.length_map, List.length_map]; omega, by rw [List.length_map, List.length_map]; omega, fun H3 at_ ha0 ha1 x3 D3 => ?_⟩
      rw [List.length_map, List.length_map] at ha1
      refine ⟨.ref d, rfl, d, 26, rfl, D3, by decide, by decide, fun H4 fi hf0 hf1 x4 D4 => ?_⟩
      refine ⟨Nat.zero_le _, fun G nG => ?_⟩
      have x24 : Ex [d] H H4 := (x2.trans x3).trans x4
      have nG0 : H G = none := x24.f G nG
      have hB4 : H4 B = some (.lst ((bs.map sg).map V.str)) := x4.lst (x3.lst hB (by simpa using dB.symm)) (by simpa using dB.symm)
      have GB : G ≠ B := (ne_of_none hB4 nG).symm
      have Gd : d ≠ G := dne D4 nG
      refine ⟨.int m, rfl, m, rfl, by omega, by omega, for_range (lo := 0) (n := (m : Int).toNat) (fun i σ H6 => ∃ (cs : List Nat) (gs : List Str) (y : Option V), σ = [some (.ref d), some (.int m), some (.str abc), y, some (.ref B), some (.int at_), some (.int fi), some (.ref G)] ∧
        H6 B = some (.lst ((cs.map sg).map V.str)) ∧ cs.length = bs.length ∧ (∀ b ∈ cs, b ∈ abc.cps.toList) ∧ H6 G = some (.lst (gs.map V.str)) ∧ gs.length = i ∧ (∀ z ∈ gs, NmG z ∧ ((TL.tl z).getLast? = some 113 ∨ (TL.tl z).getLast? = some 122)) ∧
        (∀ (j : Nat) (z : Str), gs[j]? = some z → (TL.tl z)[at_.toNat]? = abc.cps.toList[((fi + (j : Int)) % 26).toNat]?) ∧ Ex [d] H H6 ∧ Deck H6 d) ?_ ?_ ?_⟩
      · exact ⟨bs, [], _, rfl, (Ex.new (xs := []) nG).lst hB4, rfl, hbs, upd_same, rfl, by simp, by simp, x24.trans (.new nG), D4.ex (.new (xs := []) nG) (by simp)⟩
      · intro i σ H6 hi ⟨cs, gs, y, e, hc, hcl, hcs, hg, hgl, hgs, hix, x6, D6⟩
        subst e
        have ai : at_ < ((cs.map sg).map V.str).length := by rw [List.length_map, List.length_map, hcl]; exact ha1
        obtain ⟨c, hc1, hc2, hc3⟩ := abc_at ((fi + (0 + (i : Int))) % 26) (Int.emod_nonneg _ (by decide)) (Int.emod_lt_of_pos _ (by decide))
        refine ⟨.str abc, rfl, .int fi, rfl, .int (0 + (i : Int)), rfl, fi, _, rfl, rfl, _, 26, rfl, rfl, (by show (0 : Int) < 26; decide), abc, _, c, rfl, rfl, by decide, hc1, .ref B, rfl, .int at_, rfl, B, _, at_, at_.toNat, rfl, rfl, hc, ixN_of ha0 ai, ?_⟩
        rw [show (V.str ⟨#[c]⟩ : V) = V.str (sg c) from rfl, ← List.map_set (f := V.str) (a := sg c), ← List.map_set (f := sg) (a := c)]
        have at1 : at_.toNat < cs.length := by rw [hcl]; omega
        have cat : (cs.set at_.toNat c)[at_.toNat]? = some c := by rw [List.getElem?_set_self at1]
        have cl' : (cs.set at_.toNat c).length = bs.length := by rw [List.length_set, hcl]
        have co' : ∀ b ∈ cs.set at_.toNat c, b ∈ abc.cps.toList := fun b hb => by
          rcases List.mem_or_eq_of_mem_set hb with z | z
          · exact hcs b z
          · rw [z]; exact hc2
        generalize cs.set at_.toNat c = cs' at cat cl' co'
        have x7 : Ex [B, d] H6 (upd H6 B (.lst ((cs'.map sg).map V.str))) := .put hc nt_lst (by simp)
        have hB7 : (upd H6 B (.lst ((cs'.map sg).map V.str))) B = some (.lst ((cs'.map sg).map V.str)) := upd_same
        have hG7 : (upd H6 B (.lst ((cs'.map sg).map V.str))) G = some (.lst (gs.map V.str)) := by rw [upd_ne GB]; exact hg
        have D7 : Deck (upd H6 B (.lst ((cs'.map sg).map V.str))) d := D6.ex (.put (xs := [B]) hc nt_lst (by simp)) (by simpa using dB)
        have x07 : Ex [d] H (upd H6 B (.lst ((cs'.map sg).map V.str))) := Ex.own nB0 x6 x7
        have m0 : 0 ≤ (0 + (i : Int)) % 2 := Int.emod_nonneg _ (by decide)
        have m1 : (0 + (i : Int)) % 2 ≤ 1 := by
          have : (0 + (i : Int)) % 2 < 2 := Int.emod_lt_of_pos _ (by decide)
          omega
        have nok := name_ok m0 m1 (cl := cs') (by omega) co'
        obtain ⟨zs, hzs, etl⟩ := name_tl cs' m0 m1
        have nlast := name_last (cl := cs') hzs
        rw [← etl] at nlast
        have j2 : (Txt.join (Str.ofString "") (cs'.map sg)).length = cs'.length := by rw [TL.len_tl, join_sg]
        have q1 : (Str.ofString "q").length = 1 := by decide +kernel
        have k2 : (Txt.mul (Str.ofString "z") ((0 + (i : Int)) % 2)).length ≤ 1 := by
          rw [TL.len_tl]
          rcases zs_ok m0 m1 with e | e <;> rw [e] <;> simp
        refine ⟨.ref G, rfl, .inl ⟨rfl, _, .of hG7⟩, ⟨_, rfl⟩, .ref B, rfl, _, B, cs'.map sg, rfl, rfl, .inl (.of hB7), ?_, _, _, rfl, rfl, ?_, .int (0 + (i : Int)), rfl, _, 2, rfl, rfl, (by show (0 : Int) < 2; decide), _, _, rfl, rfl, (mul01 m0 m1).1, _, _, rfl, rfl, ?_, G, _, _, rfl, rfl, hG7, ?_, ?_⟩
        · rw [sg_sum, cl', show (Str.ofString "").length = 0 by decide +kernel]; omega
        · rw [q1, j2, cl']; exact Nat.le_trans (show bs.length + 1 ≤ 10 by omega) (by decide)
        · rw [len_add, q1, j2, cl']; exact Nat.le_trans (show bs.length + 1 + _ ≤ 10 by omega) (by decide)
        · rw [List.length_map, hgl]; exact Nat.lt_of_le_of_lt (show i ≤ 100 by omega) (by decide)
        · refine ⟨cs', gs ++ [Txt.join (Str.ofString "") (cs'.map sg) ++ Str.ofString "q" ++ Txt.mul (Str.ofString "z") ((0 + (i : Int)) % 2)], _, rfl, by rw [upd_ne GB.symm]; exact hB7, cl', co', by rw [upd_same, List.map_append]; rfl, by rw [List.length_append, hgl]; rfl, fun z hz => ?_, fun j z hz => ?_, Ex.own nG0 x07 (.put hG7 nt_lst (by simp)), D7.ex (.put (xs := [G]) hG7 nt_lst (by simp)) (by simpa using Gd)⟩
          · rcases List.mem_append.mp hz with z1 | z1
            · exact hgs z z1
            · rw [List.mem_singleton.mp z1]; exact ⟨nok, nlast⟩
          · by_cases hj : j < gs.length
            · rw [List.getElem?_append_left hj] at hz
              exact hix j z hz
            · rw [List.getElem?_append_right (by omega)] at hz
              have hj2 : j - gs.length = 0 := by
                cases hq : j - gs.length with
                | zero => rfl
                | succ r => rw [hq] at hz; simp at hz
              have hj3 : j = i := by omega
              rw [hj2] at hz
              cases hz
              rw [etl, hj3, List.getElem?_append_left (by rw [cl']; omega), cat, ← hc3, Int.zero_add]
      · intro σ H6 ⟨cs, gs, y, e, hc, hcl, hcs, hg, hgl, hgs, hix, x6, D6⟩
        subst e
        have nd : gs.Nodup := by
          rw [List.Nodup, List.pairwise_iff_getElem]
          intro i j hi hj hij e
          have h1 := hix i _ (List.getElem?_eq_getElem hi)
          have h2 := hix j _ (List.getElem?_eq_getElem hj)
          rw [e, h2] at h1
          have := abc_inj (by omega) (by omega) h1
          omega
        have hgm : gs.length = m := by omega
        refine ⟨.ref d, rfl, d, 4, rfl, D6, by decide, by decide, fun H7 u u0 u1 x7 D7 => ?_⟩
        have hg7 := x7.lst hg (by simpa using Gd.symm)
        refine ⟨rfl, _, rfl, ite2 (fun e => ?_) fun e => ?_⟩
        · refine ⟨(by show 8 ≤ sizeLine; decide), fun W8 n8 => ?_⟩
          have x8 : Ex [] H7 (upd H7 W8 (.lst (w8.map V.str))) := .new n8
          have f0 : 0 ≤ fi % 8 := Int.emod_nonneg _ (by decide)
          have f1 : fi % 8 < 8 := Int.emod_lt_of_pos _ (by decide)
          obtain ⟨zv, h3⟩ := mem_at3 (xs := w8.map V.str) f0 (by show _ < ((8 : Nat) : Int); exact f1)
          have az := h3.2.1
          obtain ⟨z, mz2, ez⟩ := List.mem_map.mp h3.1
          rw [← ez] at az
          clear h3
          refine ⟨.int fi, rfl, fi, 8, rfl, rfl, (by show (0 : Int) < 8; decide), W8, w8.map V.str, _, .str z, rfl, rfl, .of upd_same, az, .ref G, rfl, .ref d, rfl, .int m, rfl, d, m, rfl, D7.ex x8 (by simp), by omega, by omega, fun H9 t t0 t1 x9 D9 => ?_⟩
          have hg9 := x9.lst (x8.lst hg7) (by simpa using Gd.symm)
          have x09 : Ex [d] H H9 := ((x6.trans x7).trans (x8.mono (by simp))).trans x9
          have tl : t.toNat < gs.length := by omega
          refine ⟨G, _, t, t.toNat, rfl, rfl, hg9, ixN_of t0 (by rw [List.length_map]; omega), ?_⟩
          have xp : Ex [G, d] H9 (upd H9 G (.lst ((gs.map V.str).set t.toNat (.str z)))) := .put hg9 nt_lst (by simp)
          obtain ⟨o1, o2, o3, o4, o5, o6⟩ := w8_ok z mz2
          refine ⟨.ref G, rfl, q _ G (gs.set t.toNat z) nG0 (Ex.own nG0 x09 xp) (D9.ex (.put (xs := [G]) hg9 nt_lst (by simp)) (by simpa using Gd)) ?_ (by rw [List.length_set]; exact hgm) (fun b hb => ?_) ?_⟩
          · rw [upd_same, List.map_set]
          · rcases List.mem_or_eq_of_mem_set hb with zz | zz
            · exact (hgs b zz).1
            · rw [zz]; exact ⟨o1, o2, o3, o4⟩
          · have nz : z ∉ gs := fun m => by
              rcases (hgs z m).2 with e | e
              · exact o5 e
              · exact o6 e
            exact nodup_set nd nz
        · exact ⟨.ref G, rfl, q H7 G gs nG0 (x6.trans x7) D7 hg7 hgm (fun z m => (hgs z m).1) nd⟩
def spPicked (K : PySem.W.Frag) : Sp := fun vs H Q _ => ∃ (d l : Addr) (bs : List Str) (m : Nat), vs = [.ref d, .ref l, .int m] ∧ Deck H d ∧ H l = some (.lst (bs.map V.str)) ∧ bs.length ≤ 60 ∧ m ≤ 1000 ∧
  ∀ H' t (qs : List Str), Ex [d] H H' → Deck H' d → SqT K H' t (qs.map V.str) → (bs.Nodup → qs.Nodup) → (∀ q ∈ qs, q ∈ bs) → qs.length ≤ bs.length → Q (.ref t) H'
theorem ok_picked {f f1 : Addr} {fd d1 : FuncData} {k : Nat} (F : Fun K "_law_picked" "_law_picked" s_picked f fd) (C__law_draw : Cl P w K mg base k "_law_draw" ["_law_deck_here", "_law_most"] spDraw f1 d1)
    (m_list : mg "list" = none) (m_range : mg "range" = none) (m_min : mg "min" = none) (m_len : mg "len" = none) (m_tuple : mg "tuple" = none) : FnOk P w K mg base CX0 (k + 1) f fd ["_law_deck_here", "_law_some_here", "_law_many"] (spPicked K) := by
  refine F.ok sc_picked (fun vs H Q E h => ?_) (fun cdv A outer s H vs Q E hr h => ?_)
  · obtain ⟨d, l, bs, m, rfl, _⟩ := h; rfl
  · obtain ⟨d, l, bs, m, rfl, hD, hl, lb, hm, q⟩ := h
    refine ⟨_, (pss_cons (ps_set (i := 3) sc_picked.nd rfl (.inl rfl) (pe_callTy call_list_of (by rfl) m_list (by decide +kernel) (pa_cons (pv 1) pa_nil)))
      (pss_cons (ps_set (i := 4) sc_picked.nd rfl (.inl rfl) (pe_lst pa_nil))
      (pss_cons (ps_for PassesOwn.never rfl (pi_range1 (by rfl) m_range (pa_cons (pe_callB (call_min2 rfl) (by rfl) m_min (by decide +kernel) (pa_cons (pv 2) (pa_cons (pe_callB call_len_seq (by rfl) m_len PySem.boot_len (pa_cons (pv 3) pa_nil)) pa_nil))) pa_nil)) (pg_name (i := 5) sc_picked.nd rfl (.inl rfl)) (pss_one (ps_expr (pe_bm PySem.F.plainAttrs_list PySem.F.slot_list_append PySem.F.type_list_append mt_append (pv 4) (pa_cons (pe_bm PySem.F.plainAttrs_list PySem.F.slot_list_pop PySem.F.type_list_pop mt_popAt (pv 3) (pa_cons (pe_call C__law_draw.g hr (by rfl) C__law_draw.m C__law_draw.k C__law_draw.b .nil pass0 (pa_cons (pv 0) (pa_cons (pe_callB call_len_seq (by rfl) m_len PySem.boot_len (pa_cons (pv 3) pa_nil)) pa_nil))) pa_nil)) pa_nil)))))
      (pss_one (ps_ret (pe_callTy call_tuple_of (by rfl) m_tuple (by decide +kernel) (pa_cons (pv 4) pa_nil))))))), ?_⟩
    have dne : ∀ {H9 : Hp} {B : Addr}, Deck H9 d → H9 B = none → d ≠ B := fun ⟨c, s, zs, h, _⟩ n z => by rw [z, n] at h; cases h
    refine ⟨.ref l, rfl, l, _, rfl, .inl (.of hl), fun R nR => ?_⟩
    have xR : Ex [] H (upd H R (.lst (bs.map V.str))) := .new nR
    have dR : d ≠ R := dne hD nR
    refine ⟨Nat.zero_le _, fun G nG => ?_⟩
    have xG : Ex [] (upd H R (.lst (bs.map V.str))) (upd (upd H R (.lst (bs.map V.str))) G (.lst [])) := .new nG
    have D1 := hD.ex xR (by simp)
    have dG : d ≠ G := dne D1 nG
    have RG : R ≠ G := ne_of_none upd_same nG
    have hR2 : (upd (upd H R (.lst (bs.map V.str))) G (.lst [])) R = some (.lst (bs.map V.str)) := xG.lst upd_same
    have nG0 : H G = none := xR.f _ nG
    refine ⟨.int m, rfl, .ref R, rfl, R, _, rfl, .inl (.of hR2), m, _, rfl, ?_⟩
    have hN : ∃ N : Nat, (if (((bs.map V.str).length : Nat) : Int) < (m : Int) then (((bs.map V.str).length : Nat) : Int) else (m : Int)) = (N : Int) ∧ N ≤ bs.length := by
      rw [List.length_map]
      by_cases h : (bs.length : Int) < m
      · exact ⟨bs.length, by rw [if_pos h], Nat.le_refl _⟩
      · exact ⟨m, by rw [if_neg h], by omega⟩
    obtain ⟨N, eN, lN⟩ := hN
    rw [eN]
    refine ⟨N, rfl, by omega, by omega, for_range (lo := 0) (n := (N : Int).toNat) (fun i σ H2 => ∃ (y : Option V) (rs gs : List Str), σ = [some (.ref d), some (.ref l), some (.int m), some (.ref R), some (.ref G), y] ∧ H2 R = some (.lst (rs.map V.str)) ∧ H2 G = some (.lst (gs.map V.str)) ∧ gs.length = i ∧ (gs ++ rs).Perm bs ∧ Deck H2 d ∧ Ex [d] H H2) ?_ ?_ ?_⟩
    · exact ⟨_, bs, [], rfl, hR2, upd_same, rfl, List.Perm.refl _, D1.ex xG (by simp), (xR.trans xG).mono (by simp)⟩
    · rintro i σ H2 hi ⟨y, rs, gs, rfl, hR, hG, lg, pm, D2, x2⟩
      have lr : rs.length = bs.length - i := by
        have := pm.length_eq
        rw [List.length_append] at this; omega
      refine ⟨.ref G, rfl, .inl ⟨rfl, _, .of hG⟩, .ref R, rfl, .inl ⟨rfl, _, .of hR⟩, .ref d, rfl, .ref R, rfl, R, _, rfl, .inl (.of hR), d, _, rfl, D2, by rw [List.length_map]; omega, by rw [List.length_map]; omega, fun H3 u u0 u1 x3 D3 => ?_⟩
      rw [List.length_map] at u1
      have hu : u.toNat < rs.length := by omega
      have hR3 := x3.lst hR (by simpa using dR.symm)
      have hG3 := x3.lst hG (by simpa using dG.symm)
      have hix : ixN (rs.map V.str).length u = some u.toNat := ixN_of u0 (by rw [List.length_map]; exact u1)
      have hget : (rs.map V.str)[u.toNat]? = some (.str rs[u.toNat]) := by rw [List.getElem?_map, List.getElem?_eq_getElem hu]; rfl
      refine ⟨R, _, u, u.toNat, _, rfl, rfl, hR3, by omega, by omega, (ixN_seq hix).1, hget, G, gs.map V.str, _, rfl, rfl, by rw [upd_ne RG.symm]; exact hG3, by rw [List.length_map, sizeLine_eq]; omega, ?_⟩
      have x4 : Ex [R] H3 (upd H3 R (.lst ((rs.map V.str).eraseIdx u.toNat))) := .put hR3 nt_lst (by simp)
      have hG4 : (upd H3 R (.lst ((rs.map V.str).eraseIdx u.toNat))) G = some (.lst (gs.map V.str)) := by rw [upd_ne RG.symm]; exact hG3
      have x5 : Ex [G] (upd H3 R (.lst ((rs.map V.str).eraseIdx u.toNat))) (upd (upd H3 R (.lst ((rs.map V.str).eraseIdx u.toNat))) G (.lst (gs.map V.str ++ [.str rs[u.toNat]]))) := .put hG4 nt_lst (by simp)
      refine ⟨_, rs.eraseIdx u.toNat, gs ++ [rs[u.toNat]], rfl, ?_, by rw [upd_same, List.map_append]; rfl, by rw [List.length_append, lg]; rfl, ?_, (D3.ex x4 (by simpa using dR)).ex x5 (by simpa using dG), ?_⟩
      · rw [upd_ne RG, upd_same, map_erase]
      · rw [List.append_assoc]
        exact (List.Perm.append_left gs (erase_perm rs u.toNat hu)).trans pm
      · exact Ex.own nG0 (Ex.own nR (x2.trans x3) (x4.mono fun b hb => by simp at hb; simp [hb])) (x5.mono fun b hb => by simp at hb; simp [hb])
    · rintro σ H2 ⟨y, rs, gs, rfl, hR, hG, lg, pm, D2, x2⟩
      refine ⟨.ref G, rfl, G, _, rfl, .inl ⟨.of hG, fun t nt => ?_⟩⟩
      refine q _ t gs (x2.trans (.new nt)) (D2.ex (.new nt (xs := [])) (by simp)) (.of upd_same) (fun nd => ?_) (fun z hz => pm.mem_iff.mp (List.mem_append_left _ hz)) ?_
      · exact (List.nodup_append.mp (pm.nodup_iff.mpr nd)).1
      · have := pm.length_eq
        rw [List.length_append] at this; omega
end
end K10

set_option maxHeartbeats 4000000
namespace K10
open PySem PySem.Spec PyProof.Rows L2 Kk RZ
abbrev s_lboxes : Stmt := topS 43
theorem sc_lboxes : FnScope ["_law_deck_here", "_law_names_here", "_law_some_here"] ["_law_deck_here", "_law_names_here"] (defScope s_lboxes) := ⟨rfl, rfl, rfl, by decide +kernel, rfl, by decide +kernel, by decide +kernel⟩
abbrev s_lplain : Stmt := topS 46
abbrev n_lplain : List Str := ["_law_deck_here", "_law_case", "_law_way", "_law_x", "_law_y", "_law_z", "_law_k"]
theorem sc_lplain : FnScope n_lplain ["_law_deck_here", "_law_case"] (defScope s_lplain) := ⟨rfl, rfl, rfl, by decide +kernel, rfl, by decide +kernel, by decide +kernel⟩
theorem at4 {α : Type} {x y z u t : α} {xs : List α} : atI (x :: y :: z :: u :: t :: xs) 4 = some t := atI_nat (j := 4) rfl
theorem at5 {α : Type} {x y z u t r : α} {xs : List α} : atI (x :: y :: z :: u :: t :: r :: xs) 5 = some r := atI_nat (j := 5) rfl
theorem dot_tl : TL.tl dotS = [46] := by decide +kernel
theorem cut {s : Nat} (l : List Nat) (h : s ∈ l) : ∃ p q, l = p ++ s :: q ∧ s ∉ p := by
  induction l with
  | nil => cases h
  | cons x l ih =>
    by_cases e : s = x
    · exact ⟨[], l, by rw [e]; rfl, by simp⟩
    · obtain ⟨p, q, e2, n⟩ := ih (by rcases List.mem_cons.mp h with z | z; exact absurd z e; exact z)
      exact ⟨x :: p, q, by rw [e2]; rfl, fun z => by rcases List.mem_cons.mp z with z | z; exact e z; exact n z⟩
theorem split_tl (a : Str) : (Txt.split a dotS).map TL.tl = TL.spl [46] 0 [] (TL.tl a) := by
  have h := TL.split_spl a dotS (by rw [dot_tl]; simp) (TL.kind_ok (by decide +kernel))
  rw [dot_tl] at h; exact h
theorem split_none {a : Str} (h : 46 ∉ TL.tl a) : Txt.split a dotS = [a] := by
  refine TL.map_tl_inj ?_
  rw [split_tl, TL.spl_last1 h]; rfl
theorem split_cut {a p q : Str} (e : TL.tl a = TL.tl p ++ 46 :: TL.tl q) (h : 46 ∉ TL.tl p) : Txt.split a dotS = p :: Txt.split q dotS := by
  refine TL.map_tl_inj ?_
  rw [split_tl, e, List.map_cons, split_tl]
  exact TL.spl_part1 h
theorem split_head (a : Str) : ∃ x r, Txt.split a dotS = x :: r ∧ x.length ≤ a.length := by
  by_cases h : 46 ∈ TL.tl a
  · obtain ⟨l, r, e, nn⟩ := cut _ h
    have e1 : TL.tl (⟨l.toArray⟩ : Str) = l := by simp [TL.tl]
    have e2 : TL.tl (⟨r.toArray⟩ : Str) = r := by simp [TL.tl]
    have el := congrArg List.length e
    rw [List.length_append, List.length_cons, ← TL.len_tl] at el
    refine ⟨⟨l.toArray⟩, _, split_cut (p := ⟨l.toArray⟩) (q := ⟨r.toArray⟩) (by rw [e1, e2]; exact e) (by rw [e1]; exact nn), ?_⟩
    rw [TL.len_tl, e1]; omega
  · exact ⟨a, [], split_none h, Nat.le_refl _⟩
/-- a box: letters and dots, not long -/
structure BxG (b : Str) : Prop where
  len : b.length ≤ 30
  ok : PyData.strOk b = true
theorem strOk_of {b : Str} (h : ∀ c ∈ TL.tl b, c < 1114112) : PyData.strOk b = true := by
  unfold PyData.strOk
  rw [Array.all_eq_true_iff_forall_mem]
  intro c hc
  have := h c (by unfold TL.tl; exact Array.mem_toList_iff.mpr hc)
  exact decide_eq_true this
theorem abc_lt : ∀ c ∈ abc.cps.toList, c < 1114112 := by decide +kernel
theorem NmG.lt {z : Str} (h : NmG z) : ∀ c ∈ TL.tl z, c < 1114112 := fun c m => abc_lt c (h.abc c m)
theorem NmG.box {z : Str} (h : NmG z) : BxG z := ⟨Nat.le_trans h.hi (by decide), strOk_of h.lt⟩
theorem NmG.nodot {z : Str} (h : NmG z) : 46 ∉ TL.tl z := fun m => absurd (h.abc 46 m) (by decide +kernel)
theorem NmG.two {y z : Str} (h : NmG y) (g : NmG z) : BxG (y ++ dotS ++ z) := by
  refine ⟨?_, strOk_of fun c m => ?_⟩
  · rw [len_add, len_add, show dotS.length = 1 by decide +kernel]
    have := h.hi
    have := g.hi
    omega
  · rw [TL.tl_append, TL.tl_append, dot_tl] at m
    rcases List.mem_append.mp m with m | m
    · rcases List.mem_append.mp m with m | m
      · exact h.lt c m
      · rw [List.mem_singleton.mp m]; decide
    · exact g.lt c m
def kdot : Str := Str.ofString "k."
theorem NmG.twok {y z : Str} (h : NmG y) (g : NmG z) : BxG (y ++ kdot ++ z) := by
  refine ⟨?_, strOk_of fun c m => ?_⟩
  · rw [len_add, len_add, show kdot.length = 2 by decide +kernel]
    have := h.hi
    have := g.hi
    omega
  · rw [TL.tl_append, TL.tl_append, show TL.tl kdot = [107, 46] by decide +kernel] at m
    rcases List.mem_append.mp m with m | m
    · rcases List.mem_append.mp m with m | m
      · exact h.lt c m
      · rcases List.mem_cons.mp m with m | m
        · rw [m]; decide
        · rw [List.mem_singleton.mp m]; decide
    · exact g.lt c m
/-- what stands ahead of the first dot, and the rest -/
def prd (b : Str) : List Nat × List Nat := ((TL.tl b).takeWhile (· != 46), (TL.tl b).dropWhile (· != 46))
theorem tw_all {p : Nat → Bool} : ∀ l : List Nat, (∀ x ∈ l, p x = true) → l.takeWhile p = l ∧ l.dropWhile p = []
  | [], _ => ⟨rfl, rfl⟩
  | a :: l, h => by
    obtain ⟨h1, h2⟩ := tw_all l fun x m => h x (List.mem_cons_of_mem _ m)
    have ha := h a List.mem_cons_self
    rw [List.takeWhile_cons, List.dropWhile_cons, if_pos ha, if_pos ha, h1, h2]
    exact ⟨rfl, rfl⟩
theorem prd_no {z : Str} (h : 46 ∉ TL.tl z) : prd z = (TL.tl z, []) := by
  unfold prd
  have e : ∀ x ∈ TL.tl z, (x != 46) = true := fun x m => by
    rw [bne_iff_ne]; intro e; rw [e] at m; exact h m
  rw [(tw_all _ e).1, (tw_all _ e).2]
theorem prd_cut {b : Str} {l r : List Nat} (e : TL.tl b = l ++ 46 :: r) (h : 46 ∉ l) : prd b = (l, 46 :: r) := by
  unfold prd
  have e1 : ∀ x ∈ l, (x != 46) = true := fun x m => by
    rw [bne_iff_ne]; intro e; rw [e] at m; exact h m
  rw [e, List.takeWhile_append_of_pos e1, List.dropWhile_append_of_pos e1]
  simp
theorem tl_inj {a b : Str} (h : TL.tl a = TL.tl b) : a = b := TL.ext_tl h
theorem prd_dot {y z : Str} (h : NmG y) : prd (y ++ dotS ++ z) = (TL.tl y, 46 :: TL.tl z) := prd_cut (by rw [TL.tl_append, TL.tl_append, dot_tl]; simp) h.nodot
theorem prd_kdot {y z : Str} (h : NmG y) : prd (y ++ kdot ++ z) = (TL.tl y ++ [107], 46 :: TL.tl z) := prd_cut (by rw [TL.tl_append, TL.tl_append, show TL.tl kdot = [107, 46] by decide +kernel]; simp) (by
  intro m
  rcases List.mem_append.mp m with m | m
  · exact h.nodot m
  · cases m with
    | tail _ m => cases m)
theorem boxes_nd {n0 n1 n2 n3 n4 n5 : Str} (h : ∀ z ∈ [n0, n1, n2, n3, n4, n5], NmG z) (nd : [n0, n1, n2, n3, n4, n5].Nodup) :
    [n0, n1, n2, n0 ++ dotS ++ n1, n0 ++ dotS ++ n2, n3, n3 ++ dotS ++ n0, n4, n5].Nodup ∧ [n0, n1, n2, n0 ++ dotS ++ n1, n0 ++ dotS ++ n2, n0 ++ kdot ++ n0, n3 ++ dotS ++ n0, n4, n5].Nodup := by
  have g0 := h n0 (by simp)
  have g1 := h n1 (by simp)
  have g2 := h n2 (by simp)
  have g3 := h n3 (by simp)
  have g4 := h n4 (by simp)
  have g5 := h n5 (by simp)
  have ti : ∀ {a b : Str}, a ≠ b → TL.tl a ≠ TL.tl b := fun h e => h (tl_inj e)
  simp only [List.nodup_cons, List.mem_cons, List.not_mem_nil, or_false, not_or, not_false_eq_true, List.nodup_nil, and_true] at nd
  obtain ⟨⟨a01, a02, a03, a04, a05⟩, ⟨a12, a13, a14, a15⟩, ⟨a23, a24, a25⟩, ⟨a34, a35⟩, a45⟩ := nd
  have k0 : ∀ {z : Str}, NmG z → TL.tl n0 ++ [107] ≠ TL.tl z := fun g e => g.nk (by rw [← e]; simp)
  have t01 := ti a01
  have t02 := ti a02
  have t03 := ti a03
  have t04 := ti a04
  have t05 := ti a05
  have t12 := ti a12
  have t13 := ti a13
  have t14 := ti a14
  have t15 := ti a15
  have t23 := ti a23
  have t24 := ti a24
  have t25 := ti a25
  have t34 := ti a34
  have t35 := ti a35
  have t45 := ti a45
  have k3 := k0 g3
  refine ⟨List.Pairwise.of_map prd (fun a b h e => h (by rw [e])) (show List.Nodup _ from ?_), List.Pairwise.of_map prd (fun a b h e => h (by rw [e])) (show List.Nodup _ from ?_)⟩
  · simp only [List.map_cons, List.map_nil, prd_dot g0, prd_dot g3, prd_no g0.nodot, prd_no g1.nodot, prd_no g2.nodot, prd_no g3.nodot, prd_no g4.nodot, prd_no g5.nodot]
    simp [t01, t02, t03, t04, t05, t12, t13, t14, t15, t23, t24, t25, t34, t35, t45]
  · simp only [List.map_cons, List.map_nil, prd_dot g0, prd_dot g3, prd_kdot g0, prd_no g0.nodot, prd_no g1.nodot, prd_no g2.nodot, prd_no g3.nodot, prd_no g4.nodot, prd_no g5.nodot]
    simp [t01, t02, t03, t04, t05, t12, t13, t14, t15, t23, t24, t25, t34, t35, t45, k3]
section
variable {P : Program} {w : World} {K : PySem.W.Frag} {mg : Str → Option Value} {base : Heap}
def spLBoxes : Sp := fun vs H Q _ => ∃ (d l : Addr) (ws : List Str), vs = [.ref d, .ref l] ∧ Deck H d ∧ H l = some (.lst (ws.map V.str)) ∧ l ≠ d ∧ ws.length = 17 ∧ (∀ z ∈ ws, NmG z) ∧ ws.Nodup ∧
  ∀ H' p (bs : List Str), H p = none → Ex [d] H H' → Deck H' d → H' p = some (.lst (bs.map V.str)) → bs.Nodup → 3 ≤ bs.length → bs.length ≤ 9 → (∀ b ∈ bs, BxG b) → Q (.ref p) H'
theorem ok_lboxes {f f1 f2 : Addr} {fd d1 d2 : FuncData} {k : Nat} (F : Fun K "_law_boxes" "_law_boxes" s_lboxes f fd) (C__law_draw : Cl P w K mg base k "_law_draw" ["_law_deck_here", "_law_most"] spDraw f1 d1) (C__law_some : Cl P w K mg base k "_law_some" ["_law_deck_here", "_law_few", "_law_most"] spSome f2 d2) :
    FnOk P w K mg base CX0 (k + 1) f fd ["_law_deck_here", "_law_names_here"] spLBoxes := by
  refine F.ok sc_lboxes (fun vs H Q E h => ?_) (fun cdv A outer s H vs Q E hr h => ?_)
  · obtain ⟨d, l, ws, rfl, _⟩ := h; rfl
  · obtain ⟨d, l, ws, rfl, hD, hl, ld, lw, hN, nd, q⟩ := h
    refine ⟨_, (pss_cons (ps_set (i := 2) sc_lboxes.nd rfl (.inl rfl) (pe_lst (pa_cons (pe_ix ix_list (pv 1) pe_int (fun _ _ => rfl)) (pa_cons (pe_ix ix_list (pv 1) pe_int (fun _ _ => rfl)) (pa_cons (pe_ix ix_list (pv 1) pe_int (fun _ _ => rfl)) (pa_cons (pe_op op_add_str (pe_op op_add_str (pe_ix ix_list (pv 1) pe_int (fun _ _ => rfl)) pe_str) (pe_ix ix_list (pv 1) pe_int (fun _ _ => rfl))) (pa_cons (pe_op op_add_str (pe_op op_add_str (pe_ix ix_list (pv 1) pe_int (fun _ _ => rfl)) pe_str) (pe_ix ix_list (pv 1) pe_int (fun _ _ => rfl))) (pa_cons (pe_ix ix_list (pv 1) pe_int (fun _ _ => rfl)) pa_nil))))))))
      (pss_cons (ps_set (i := 2) sc_lboxes.nd rfl (.inl rfl) (pe_op op_cat (pv 2) (pe_lst (pa_cons (pe_op op_add_str (pe_op op_add_str (pe_ix ix_list (pv 1) pe_int (fun _ _ => rfl)) pe_str) (pe_ix ix_list (pv 1) pe_int (fun _ _ => rfl))) (pa_cons (pe_ix ix_list (pv 1) pe_int (fun _ _ => rfl)) (pa_cons (pe_ix ix_list (pv 1) pe_int (fun _ _ => rfl)) pa_nil))))))
      (pss_cons (ps_if (pt_cmpR op_eq (pe_call C__law_draw.g hr (by rfl) C__law_draw.m C__law_draw.k C__law_draw.b .nil pass0 (pa_cons (pv 0) (pa_cons pe_int pa_nil))) pe_int (nomark _)) (pss_one (ps_asg (pe_op op_add_str (pe_op op_add_str (pe_ix ix_list (pv 1) pe_int (fun _ _ => rfl)) pe_str) (pe_ix ix_list (pv 1) pe_int (fun _ _ => rfl))) (pg_sub (pv 2) pe_int set_list))) pss_nil)
      (pss_one (ps_ret (pe_slice sl_list (pe_slice sl_list (pv 2) (po_some (pe_call C__law_draw.g hr (by rfl) C__law_draw.m C__law_draw.k C__law_draw.b .nil pass0 (pa_cons (pv 0) (pa_cons pe_int pa_nil)))) po_none) po_none (po_some (pe_op op_add pe_int (pe_call C__law_some.g hr (by rfl) C__law_some.m C__law_some.k C__law_some.b .nil pass0 (pa_cons (pv 0) (pa_cons pe_int (pa_cons pe_int pa_nil)))))))))))), ?_⟩
    obtain ⟨n0, n1, n2, n3, n4, n5, rest, rfl⟩ : ∃ n0 n1 n2 n3 n4 n5 rest, ws = n0 :: n1 :: n2 :: n3 :: n4 :: n5 :: rest := by
      match ws, lw with
      | n0 :: n1 :: n2 :: n3 :: n4 :: n5 :: rest, _ => exact ⟨n0, n1, n2, n3, n4, n5, rest, rfl⟩
    have h6 : ∀ z ∈ [n0, n1, n2, n3, n4, n5], NmG z := fun z m => hN z (by
      simp only [List.mem_cons, List.not_mem_nil, or_false] at m ⊢
      rcases m with m | m | m | m | m | m <;> simp [m])
    have nd6 : [n0, n1, n2, n3, n4, n5].Nodup := (List.nodup_append (l₁ := [n0, n1, n2, n3, n4, n5]) (l₂ := rest) |>.mp nd).1
    have g0 := h6 n0 (by simp)
    have g1 := h6 n1 (by simp)
    have g2 := h6 n2 (by simp)
    have g3 := h6 n3 (by simp)
    have g4 := h6 n4 (by simp)
    have g5 := h6 n5 (by simp)
    obtain ⟨ndA, ndB⟩ := boxes_nd h6 nd6
    have hA : ∀ b ∈ [n0, n1, n2, n0 ++ dotS ++ n1, n0 ++ dotS ++ n2, n3, n3 ++ dotS ++ n0, n4, n5], BxG b := by
      intro b m
      simp only [List.mem_cons, List.not_mem_nil, or_false] at m
      rcases m with rfl | rfl | rfl | rfl | rfl | rfl | rfl | rfl | rfl
      · exact g0.box
      · exact g1.box
      · exact g2.box
      · exact g0.two g1
      · exact g0.two g2
      · exact g3.box
      · exact g3.two g0
      · exact g4.box
      · exact g5.box
    have hB : ∀ b ∈ [n0, n1, n2, n0 ++ dotS ++ n1, n0 ++ dotS ++ n2, n0 ++ kdot ++ n0, n3 ++ dotS ++ n0, n4, n5], BxG b := by
      intro b m
      simp only [List.mem_cons, List.not_mem_nil, or_false] at m
      rcases m with rfl | rfl | rfl | rfl | rfl | rfl | rfl | rfl | rfl
      · exact g0.box
      · exact g1.box
      · exact g2.box
      · exact g0.two g1
      · exact g0.two g2
      · exact g0.twok g0
      · exact g3.two g0
      · exact g4.box
      · exact g5.box
    have s1 : ∀ {y z : Str}, NmG y → z.length ≤ 2 → y.length + z.length ≤ sizeLine := fun {y z} g h => by
      have := g.hi
      rw [sizeLine_eq]; omega
    have s2 : ∀ {y x z : Str}, NmG y → x.length ≤ 2 → NmG z → (y ++ x).length + z.length ≤ sizeLine := fun {y x z} g h g' => by
      have := g.hi
      have := g'.hi
      rw [len_add, sizeLine_eq]; omega
    have ld1 : dotS.length ≤ 2 := by decide +kernel
    have lk2 : kdot.length ≤ 2 := by decide +kernel
    have ix : ∀ {H9 : Hp}, Ex [] H H9 → SqL K H9 l ((n0 :: n1 :: n2 :: n3 :: n4 :: n5 :: rest).map V.str) := fun e => .of (e.lst hl)
    refine ⟨.ref l, rfl, l, _, 0, _, rfl, rfl, ix .refl, at0, .ref l, rfl, l, _, 1, _, rfl, rfl, ix .refl, at1, .ref l, rfl, l, _, 2, _, rfl, rfl, ix .refl, at2,
      .ref l, rfl, l, _, 0, _, rfl, rfl, ix .refl, at0, n0, dotS, rfl, rfl, s1 g0 ld1, .ref l, rfl, l, _, 1, _, rfl, rfl, ix .refl, at1, _, n1, rfl, rfl, s2 g0 ld1 g1,
      .ref l, rfl, l, _, 0, _, rfl, rfl, ix .refl, at0, n0, dotS, rfl, rfl, s1 g0 ld1, .ref l, rfl, l, _, 2, _, rfl, rfl, ix .refl, at2, _, n2, rfl, rfl, s2 g0 ld1 g2,
      .ref l, rfl, l, _, 3, _, rfl, rfl, ix .refl, at3, (by show 6 ≤ sizeLine; decide), fun p1 np1 => ?_⟩
    have x1 : Ex [] H (upd H p1 (.lst ([n0, n1, n2, n0 ++ dotS ++ n1, n0 ++ dotS ++ n2, n3].map V.str))) := .new np1
    refine ⟨.ref p1, rfl, .ref l, rfl, l, _, 3, _, rfl, rfl, ix x1, at3, n3, dotS, rfl, rfl, s1 g3 ld1, .ref l, rfl, l, _, 0, _, rfl, rfl, ix x1, at0, _, n0, rfl, rfl, s2 g3 ld1 g0,
      .ref l, rfl, l, _, 4, _, rfl, rfl, ix x1, at4, .ref l, rfl, l, _, 5, _, rfl, rfl, ix x1, at5, l3, fun p2 np2 => ?_⟩
    have x2 : Ex [] (upd H p1 (.lst ([n0, n1, n2, n0 ++ dotS ++ n1, n0 ++ dotS ++ n2, n3].map V.str))) (upd (upd H p1 (.lst ([n0, n1, n2, n0 ++ dotS ++ n1, n0 ++ dotS ++ n2, n3].map V.str))) p2 (.lst ([n3 ++ dotS ++ n0, n4, n5].map V.str))) := .new np2
    refine ⟨p1, p2, [n0, n1, n2, n0 ++ dotS ++ n1, n0 ++ dotS ++ n2, n3].map V.str, [n3 ++ dotS ++ n0, n4, n5].map V.str, rfl, rfl, x2.lst upd_same, upd_same, (by show 9 ≤ sizeLine; decide), fun p3 np3 => ?_⟩
    have x3 := (x1.trans x2).trans (Ex.new np3 (xs := []) (o := .lst ([n0, n1, n2, n0 ++ dotS ++ n1, n0 ++ dotS ++ n2, n3, n3 ++ dotS ++ n0, n4, n5].map V.str)))
    have h3 : (upd (upd (upd H p1 (.lst ([n0, n1, n2, n0 ++ dotS ++ n1, n0 ++ dotS ++ n2, n3].map V.str))) p2 (.lst ([n3 ++ dotS ++ n0, n4, n5].map V.str))) p3 (.lst ([n0, n1, n2, n0 ++ dotS ++ n1, n0 ++ dotS ++ n2, n3, n3 ++ dotS ++ n0, n4, n5].map V.str))) p3 = some (.lst ([n0, n1, n2, n0 ++ dotS ++ n1, n0 ++ dotS ++ n2, n3, n3 ++ dotS ++ n0, n4, n5].map V.str)) := upd_same
    have nn3 : H p3 = none := (x1.trans x2).f _ np3
    generalize hH3 : upd (upd (upd H p1 (.lst ([n0, n1, n2, n0 ++ dotS ++ n1, n0 ++ dotS ++ n2, n3].map V.str))) p2 (.lst ([n3 ++ dotS ++ n0, n4, n5].map V.str))) p3 (.lst ([n0, n1, n2, n0 ++ dotS ++ n1, n0 ++ dotS ++ n2, n3, n3 ++ dotS ++ n0, n4, n5].map V.str)) = H3 at x3 h3
    have hH3' : upd (upd (upd H p1 (.lst [V.str n0, .str n1, .str n2, .str (n0 ++ dotS ++ n1), .str (n0 ++ dotS ++ n2), .str n3])) p2 (.lst [V.str (n3 ++ dotS ++ n0), .str n4, .str n5])) p3 (.lst ([n0, n1, n2, n0 ++ dotS ++ n1, n0 ++ dotS ++ n2, n3].map V.str ++ [n3 ++ dotS ++ n0, n4, n5].map V.str)) = H3 := hH3
    have D3 := hD.ex x3 (by simp)
    have dp3 : d ≠ p3 := fun z => by
      obtain ⟨c, s, zs, h, _⟩ := hD
      rw [z, nn3] at h; cases h
    show _
    rw [hH3']
    clear hH3 hH3'
    let Pv : Hp → Prop := fun H4 => Ex [d] H H4 ∧ Deck H4 d ∧ ∃ b9 : List Str, H4 p3 = some (.lst (b9.map V.str)) ∧ b9.Nodup ∧ b9.length = 9 ∧ ∀ b ∈ b9, BxG b
    refine ⟨.ref d, rfl, d, 4, rfl, D3, by decide, by decide, fun H4 u u0 u1 x4 D4 => ?_⟩
    have x04 : Ex [d] H H4 := (x3.mono (by simp)).trans x4
    have h34 := x4.lst h3 (by simpa using dp3.symm)
    have hl4 : SqL K H4 l ((n0 :: n1 :: n2 :: n3 :: n4 :: n5 :: rest).map V.str) := .of (x04.lst hl (by simpa using ld))
    refine (fun tail => ⟨rfl, _, rfl, ite2 (fun e => ⟨.ref l, rfl, l, _, 0, _, rfl, rfl, hl4, at0, n0, kdot, rfl, rfl, s1 g0 lk2, .ref l, rfl, l, _, 0, _, rfl, rfl, hl4, at0, _, n0, rfl, rfl, s2 g0 lk2 g0, .ref p3, rfl, p3, _, 5, 5, rfl, rfl, h34, rfl, tail _ ?_⟩) fun e => tail H4 ⟨x04, D4, _, h34, ndA, rfl, hA⟩⟩) (?_ : ∀ H5, Pv H5 → _)
    · rintro H5 ⟨x5, D5, b9, h5, nd5, l5, hb5⟩
      refine ⟨.ref p3, rfl, .ref d, rfl, d, 4, rfl, D5, by decide, by decide, fun H6 v v0 v1 x6 D6 => ?_⟩
      have h6' := x6.lst h5 (by simpa using dp3.symm)
      obtain ⟨vn, rfl⟩ : ∃ vn : Nat, v = vn := ⟨v.toNat, by omega⟩
      refine ⟨vn, rfl, p3, _, rfl, .of h6', fun p4 np4 => ?_⟩
      rw [cut_fr, ← List.map_drop]
      have x7 : Ex [] H6 (upd H6 p4 (.lst ((b9.drop vn).map V.str))) := .new np4
      have dp4 : d ≠ p4 := fun z => by
        obtain ⟨c, s, zs, h, _⟩ := D6
        rw [z, np4] at h; cases h
      refine ⟨.ref d, rfl, d, 2, 5, rfl, D6.ex x7 (by simp), by decide, fun H8 t ht x8 D8 => ?_⟩
      have h8 := x8.lst (upd_same (H := H6) (a := p4) (o := .lst ((b9.drop vn).map V.str))) (by simpa using dp4.symm)
      refine ⟨3, t, rfl, rfl, 3 + (t : Int), rfl, p4, _, rfl, .of h8, fun p5 np5 => ?_⟩
      rw [show (3 : Int) + (t : Int) = ((3 + t : Nat) : Int) by omega, cut_to, ← List.map_take]
      have x08 : Ex [d] H H8 := ((x5.trans x6).trans (x7.mono (by simp))).trans x8
      have sub : ((b9.drop vn).take (3 + t)).Sublist b9 := (List.take_sublist _ _).trans (List.drop_sublist _ _)
      have lt : ((b9.drop vn).take (3 + t)).length = min (3 + t) (9 - vn) := by rw [List.length_take, List.length_drop, l5]
      exact q _ p5 _ (x08.f _ np5) (x08.trans (.new np5)) (D8.ex (.new np5 (xs := [])) (by simp)) upd_same (nd5.sublist sub) (by rw [lt]; omega) (by rw [lt]; omega) fun b m => hb5 b (sub.subset m)
    · refine ⟨Ex.own nn3 x04 (.put h34 nt_lst (by simp)), D4.ex (.put (xs := [p3]) h34 nt_lst (by simp)) (by simpa using dp3), [n0, n1, n2, n0 ++ dotS ++ n1, n0 ++ dotS ++ n2, n0 ++ kdot ++ n0, n3 ++ dotS ++ n0, n4, n5], ?_, ndB, rfl, hB⟩
      rw [upd_same]; rfl
end
end K10

set_option maxHeartbeats 4000000
namespace K10
open PySem PySem.Spec PyProof.Rows L2 Kk RZ
abbrev kB : Str := Str.ofString "boxes"
abbrev kWs : Str := Str.ofString "worths"
/-- the boxes and the worths that are drawn from -/
structure CaseH (H : Hp) (cs bl wl : Addr) (bs ws : List Str) : Prop where
  c : H cs = some (.dK [(.inr kB, .ref bl), (.inr kWs, .ref wl)])
  b : H bl = some (.lst (bs.map V.str))
  w : H wl = some (.lst (ws.map V.str))
theorem CaseH.ex {H H' : Hp} {cs bl wl : Addr} {bs ws : List Str} {xs : List Addr} (h : CaseH H cs bl wl bs ws) (e : Ex xs H H') (m1 : cs ∉ xs) (m2 : bl ∉ xs) (m3 : wl ∉ xs) : CaseH H' cs bl wl bs ws :=
  ⟨e.a cs _ m1 h.c (fun _ z => by cases z), e.lst h.b m2, e.lst h.w m3⟩
theorem CaseH.gb {H : Hp} {cs bl wl : Addr} {bs ws : List Str} (h : CaseH H cs bl wl bs ws) : DGet H cs (.str kB) (some (.ref bl)) := by
  have := DGet.k (k := .inr kB) h.c
  exact this
theorem CaseH.gw {H : Hp} {cs bl wl : Addr} {bs ws : List Str} (h : CaseH H cs bl wl bs ws) : DGet H cs (.str kWs) (some (.ref wl)) := by
  have := DGet.k (k := .inr kWs) h.c
  have e : valV [((.inr kB : Key), V.ref bl), (.inr kWs, .ref wl)] (.inr kWs) = some (.ref wl) := by
    unfold valV
    rw [List.find?_cons_of_neg (by
      simp only [decide_eq_true_eq]
      intro z
      exact absurd (Sum.inr.inj z) (by decide +kernel)), List.find?_cons_of_pos (by simp)]
    rfl
  rw [e] at this
  exact this
def ndW : Wo → Prop
  | .drop qs => qs.Nodup
  | .wipe b => b.length ≤ 1000
  | _ => True
def okP (bs ws : List Str) (W : Wo) : Prop := plainW W = true ∧ okW bs ws W ∧ ndW W
section
variable {P : Program} {w : World} {K : PySem.W.Frag} {mg : Str → Option Value} {base : Heap}
def spLPlain (K : PySem.W.Frag) : Sp := fun vs H Q _ => ∃ (d cs bl wl : Addr) (bs ws : List Str), vs = [.ref d, .ref cs] ∧ Deck H d ∧ CaseH H cs bl wl bs ws ∧ bl ≠ d ∧ wl ≠ d ∧ bs.Nodup ∧ 1 ≤ bs.length ∧ bs.length ≤ 9 ∧ (∀ b ∈ bs, BxG b) ∧ 1 ≤ ws.length ∧ ws.length ≤ 20 ∧
  ∀ H' v W, Ex [d] H H' → Deck H' d → Tp K H' v (wD W) → okP bs ws W → Q v H'
theorem ok_lplain {f f1 f2 f3 f4 : Addr} {fd d1 d2 d3 d4 : FuncData} {k : Nat} (F : Fun K "_law_plain" "_law_plain" s_lplain f fd) (C__law_draw : Cl P w K mg base k "_law_draw" ["_law_deck_here", "_law_most"] spDraw f1 d1) (C__law_one_of : Cl P w K mg base k "_law_one_of" ["_law_deck_here", "_law_some_here"] (spOneOf K) f2 d2)
    (C__law_picked : Cl P w K mg base k "_law_picked" ["_law_deck_here", "_law_some_here", "_law_many"] (spPicked K) f3 d3) (C__law_some : Cl P w K mg base k "_law_some" ["_law_deck_here", "_law_few", "_law_most"] spSome f4 d4) (m_range : mg "range" = none) :
    FnOk P w K mg base CX0 (k + 1) f fd ["_law_deck_here", "_law_case"] (spLPlain K) := by
  refine F.ok sc_lplain (fun vs H Q E h => ?_) (fun cdv A outer s H vs Q E hr h => ?_)
  · obtain ⟨d, cs, bl, wl, bs, ws, rfl, _⟩ := h; rfl
  · obtain ⟨d, cs, bl, wl, bs, ws, rfl, hD, hC, bd, wd, ndb, lb1, lb2, hBx, lw1, lw2, q⟩ := h
    refine ⟨_, (pss_cons (ps_set (i := 2) sc_lplain.nd rfl (.inl rfl) (pe_call C__law_draw.g hr (by rfl) C__law_draw.m C__law_draw.k C__law_draw.b .nil pass0 (pa_cons (pv 0) (pa_cons pe_int pa_nil))))
      (pss_cons (ps_asg (pe_lc (own := [("_law_k", 6)]) (g := gName 6) (tt := tYes) rfl sc_lplain.nd (pi_range1 (by rfl) m_range (pa_cons pe_int pa_nil)) (blkOk_by (N := n_lplain) (sc := defScope s_lplain) (by decide +kernel)) (fun _ _ _ _ _ => pg_name (i := 6) sc_lplain.nd rfl (Or.inl rfl)) (fun _ _ _ _ _ => pts_nil) (fun _ _ _ _ _ => (pe_call C__law_one_of.g hr (by rfl) C__law_one_of.m C__law_one_of.k C__law_one_of.b .nil pass0 (pa_cons (pv 0) (pa_cons (pe_dget (hu_of hr) (pv 1) pe_str (fun _ _ => rfl)) pa_nil))))) (pg_lst rfl (pgs_cons (pg_name (i := 3) sc_lplain.nd rfl (.inl rfl)) (pgs_cons (pg_name (i := 4) sc_lplain.nd rfl (.inl rfl)) (pgs_cons (pg_name (i := 5) sc_lplain.nd rfl (.inl rfl)) pgs_nil)))))
      (pss_cons (ps_if (pt_cmpR op_lt (pv 2) pe_int (nomark _)) (pss_one (ps_ret (pe_tup (pa_cons pe_str (pa_cons (pv 3) (pa_cons (pe_call C__law_one_of.g hr (by rfl) C__law_one_of.m C__law_one_of.k C__law_one_of.b .nil pass0 (pa_cons (pv 0) (pa_cons (pe_dget (hu_of hr) (pv 1) pe_str (fun _ _ => rfl)) pa_nil))) pa_nil)))))) pss_nil)
      (pss_cons (ps_if (pt_cmpR op_eq (pv 2) pe_int (nomark _)) (pss_one (ps_ret (pe_tup (pa_cons pe_str (pa_cons (pv 3) pa_nil))))) pss_nil)
      (pss_cons (ps_if (pt_cmpR op_eq (pv 2) pe_int (nomark _)) (pss_one (ps_ret (pe_tup (pa_cons pe_str (pa_cons (pv 3) (pa_cons (pe_ix ix_list (pe_lst (pa_cons pe_int (pa_cons pe_int (pa_cons pe_int (pa_cons (pe_call C__law_draw.g hr (by rfl) C__law_draw.m C__law_draw.k C__law_draw.b .nil pass0 (pa_cons (pv 0) (pa_cons pe_int pa_nil))) pa_nil))))) (pe_call C__law_draw.g hr (by rfl) C__law_draw.m C__law_draw.k C__law_draw.b .nil pass0 (pa_cons (pv 0) (pa_cons pe_int pa_nil))) (fun _ _ => rfl)) pa_nil)))))) pss_nil)
      (pss_cons (ps_if (pt_cmpR op_lt (pv 2) pe_int (nomark _)) (pss_one (ps_ret (pe_tup (pa_cons pe_str (pa_cons (pv 3) (pa_cons (pv 4) pa_nil)))))) pss_nil)
      (pss_cons (ps_if (pt_cmpR op_lt (pv 2) pe_int (nomark _)) (pss_one (ps_ret (pe_ix ix_list (pe_lst (pa_cons (pe_tup (pa_cons pe_str (pa_cons (pv 3) (pa_cons (pv 4) (pa_cons (pv 5) pa_nil))))) (pa_cons (pe_tup (pa_cons pe_str (pa_cons (pv 3) (pa_cons (pv 4) pa_nil)))) pa_nil))) (pe_op op_sub (pv 2) pe_int) (fun _ _ => rfl)))) pss_nil)
      (pss_cons (ps_if (pt_cmpR op_eq (pv 2) pe_int (nomark _)) (pss_one (ps_ret (pe_tup (pa_cons pe_str (pa_cons (pv 3) pa_nil))))) pss_nil)
      (pss_cons (ps_if (pt_cmpR op_eq (pv 2) pe_int (nomark _)) (pss_one (ps_ret (pe_tup (pa_cons pe_str (pa_cons (pe_call C__law_picked.g hr (by rfl) C__law_picked.m C__law_picked.k C__law_picked.b .nil pass0 (pa_cons (pv 0) (pa_cons (pe_dget (hu_of hr) (pv 1) pe_str (fun _ _ => rfl)) (pa_cons (pe_op op_add pe_int (pe_call C__law_some.g hr (by rfl) C__law_some.m C__law_some.k C__law_some.b .nil pass0 (pa_cons (pv 0) (pa_cons pe_int (pa_cons pe_int pa_nil))))) pa_nil)))) pa_nil))))) pss_nil)
      (pss_one (ps_ret (pe_ix ix_list (pe_lst (pa_cons (pe_tup (pa_cons pe_str (pa_cons (pv 3) pa_nil))) (pa_cons (pe_tup (pa_cons pe_str (pa_cons (pe_ix ix_list (pe_split (pv 3) pe_str) pe_int (fun _ _ => rfl)) pa_nil))) (pa_cons (pe_tup (pa_cons pe_str (pa_cons (pe_ix ix_list (pe_split (pe_ix ix_list (pe_dget (hu_of hr) (pv 1) pe_str (fun _ _ => rfl)) pe_int (fun _ _ => rfl)) pe_str) pe_int (fun _ _ => rfl)) pa_nil))) pa_nil)))) (pe_call C__law_draw.g hr (by rfl) C__law_draw.m C__law_draw.k C__law_draw.b .nil pass0 (pa_cons (pv 0) (pa_cons pe_int pa_nil))) (fun _ _ => rfl))))))))))))), ?_⟩
    have cd : cs ≠ d := fun z => by
      obtain ⟨c, s, zs, h, _⟩ := hD
      rw [← z, hC.c] at h; cases h
    refine ⟨.ref d, rfl, d, 11, rfl, hD, by decide, by decide, fun H1 way w0 w1 x1 D1 => ?_⟩
    refine ⟨3, rfl, by decide, by decide, fun B nB => ?_⟩
    have nB0 : H B = none := x1.f B nB
    have dB : d ≠ B := fun z => by
      obtain ⟨c, s, zs, h, _⟩ := D1
      rw [z, nB] at h; cases h
    have C1 := hC.ex x1 (by simpa using cd) (by simpa using bd) (by simpa using wd)
    refine lc_range (lo := 0) (n := (3 : Int).toNat) (fun i H2 => ∃ zs : List Str, H2 B = some (.lst (zs.map V.str)) ∧ zs.length = i ∧ (∀ z ∈ zs, z ∈ bs) ∧ Ex [d] H H2 ∧ Deck H2 d) ?_ ?_ ?_
    · exact ⟨[], upd_same, rfl, by simp, x1.trans (.new nB), D1.ex (.new nB (xs := [])) (by simp)⟩
    · rintro i H2 hi ⟨zs, hB, lz, hz, x2, D2⟩
      have C2 := hC.ex x2 (by simpa using cd) (by simpa using bd) (by simpa using wd)
      refine ⟨rfl, .ref d, rfl, .ref cs, rfl, cs, _, rfl, C2.gb, d, bl, bs.map V.str, rfl, D2, C2.b, bd, ?_, by rw [List.length_map]; omega, fun H3 v mv x3 D3 => ?_⟩
      · intro z
        have := congrArg List.length z
        rw [List.length_map] at this
        simp at this
        rw [this] at lb1
        simp at lb1
      · obtain ⟨b, mb, rfl⟩ := List.mem_map.mp mv
        have hB3 := x3.lst hB (by simpa using dB.symm)
        refine ⟨zs.map V.str, hB3, by rw [List.length_map, sizeLine_eq]; omega, zs ++ [b], by rw [upd_same, List.map_append]; rfl, by rw [List.length_append, lz]; rfl, fun z m => ?_, Ex.own nB0 (x2.trans x3) (.put hB3 nt_lst (by simp)), D3.ex (.put (xs := [B]) hB3 nt_lst (by simp)) (by simpa using dB)⟩
        rcases List.mem_append.mp m with m | m
        · exact hz z m
        · rw [List.mem_singleton.mp m]; exact mb
    · rintro H2 ⟨zs, hB, lz, hz, x2, D2⟩
      obtain ⟨x, y, z, rfl⟩ : ∃ x y z, zs = [x, y, z] := by
        match zs, lz with
        | [x, y, z], _ => exact ⟨x, y, z, rfl⟩
      have mx : x ∈ bs := hz x (by simp)
      have my : y ∈ bs := hz y (by simp)
      have mz : z ∈ bs := hz z (by simp)
      have C2 := hC.ex x2 (by simpa using cd) (by simpa using bd) (by simpa using wd)
      have fin : ∀ (H3 : Hp) (v : V) (W : Wo), Ex [d] H2 H3 → Deck H3 d → Tp K H3 v (wD W) → okP bs ws W → Q v H3 := fun H3 v W x3 D3 t o => q H3 v W (x2.trans x3) D3 t o
      refine ⟨B, _, rfl, .of hB, rfl, _, _, rfl, _, _, rfl, _, _, rfl, rfl, ?_⟩
      have new : ∀ {H3 : Hp} {t : Addr} {o : HO}, Ex [d] H2 H3 → Deck H3 d → H3 t = none → Ex [d] H2 (upd H3 t o) ∧ Deck (upd H3 t o) d := fun x3 D3 nt => ⟨x3.trans (.new nt), D3.ex (.new nt (xs := [])) (by simp)⟩
      have ni : ∀ n : Int, ¬ way = n → ¬ V.int way = V.int n := fun n h e => h (V.int.inj e)
      refine ⟨.int way, rfl, way, 2, rfl, rfl, _, rfl, ?_⟩
      by_cases c2 : way < 2
      · refine itD c2 ⟨.str x, rfl, .ref d, rfl, .ref cs, rfl, cs, _, rfl, C2.gw, d, wl, ws.map V.str, rfl, D2, C2.w, wd, ?_, by rw [List.length_map]; omega, fun H3 v mv x3 D3 => ⟨l3, fun t nt => ?_⟩⟩
        · intro z
          have := congrArg List.length z
          rw [List.length_map] at this
          simp at this
          rw [this] at lw1
          simp at lw1
        · obtain ⟨s, ms, rfl⟩ := List.mem_map.mp mv
          obtain ⟨x4, D4⟩ := new (o := .tup [.str (Str.ofString "take"), .str x, .str s]) x3 D3 nt
          exact fin _ _ (.take x s) x4 D4 (.tup (.of upd_same) (.cons (.str _) (.cons (.str _) (.cons (.str _) .nil)))) ⟨rfl, ⟨mx, ms⟩, trivial⟩
      refine itN c2 ⟨.int way, rfl, rfl, _, rfl, ?_⟩
      by_cases c3 : way = 2
      · refine itD (by rw [c3]) ⟨.str x, rfl, l2, fun t nt => ?_⟩
        obtain ⟨x4, D4⟩ := new (o := .tup [.str (Str.ofString "ask"), .str x]) .refl D2 nt
        exact fin _ _ (.ask x) x4 D4 (.tup (.of upd_same) (.cons (.str _) (.cons (.str _) .nil))) ⟨rfl, mx, trivial⟩
      refine itN (ni 2 c3) ⟨.int way, rfl, rfl, _, rfl, ?_⟩
      by_cases c4 : way = 3
      · refine itD (by rw [c4]) ⟨.str x, rfl, .ref d, rfl, d, 10000, rfl, D2, by decide, by decide, fun H3 v v0 v1 x3 D3 => ⟨(by show 4 ≤ sizeLine; decide), fun L nL => ?_⟩⟩
        obtain ⟨x4, D4⟩ := new (o := .lst [.int 0, .int 1, .int 9999, .int v]) x3 D3 nL
        have dL : d ≠ L := fun z => by
          obtain ⟨c, s, zs, h, _⟩ := D3
          rw [z, nL] at h; cases h
        refine ⟨.ref d, rfl, d, 4, rfl, D4, by decide, by decide, fun H5 u u0 u1 x5 D5 => ?_⟩
        have hL5 := x5.lst (upd_same (H := H3) (a := L) (o := .lst [.int 0, .int 1, .int 9999, .int v])) (by simpa using dL.symm)
        obtain ⟨e, me, ae, _⟩ := mem_at3 (xs := [V.int 0, .int 1, .int 9999, .int v]) u0 u1
        obtain ⟨n, rfl⟩ : ∃ n : Int, e = .int n := by
          simp only [List.mem_cons, List.not_mem_nil, or_false] at me
          rcases me with rfl | rfl | rfl | rfl <;> exact ⟨_, rfl⟩
        refine ⟨L, _, u, _, rfl, rfl, .of hL5, ae, l3, fun t nt => ?_⟩
        obtain ⟨x6, D6⟩ := new (o := .tup [.str (Str.ofString "number"), .str x, .int n]) (x4.trans x5) D5 nt
        exact fin _ _ (.number x n) x6 D6 (.tup (.of upd_same) (.cons (.str _) (.cons (.str _) (.cons (.int _) .nil)))) ⟨rfl, mx, trivial⟩
      refine itN (ni 3 c4) ⟨.int way, rfl, way, 6, rfl, rfl, _, rfl, ?_⟩
      by_cases c6 : way < 6
      · refine itD c6 ⟨.str x, rfl, .str y, rfl, l3, fun t nt => ?_⟩
        obtain ⟨x4, D4⟩ := new (o := .tup [.str (Str.ofString "copy"), .str x, .str y]) .refl D2 nt
        exact fin _ _ (.copy x y) x4 D4 (.tup (.of upd_same) (.cons (.str _) (.cons (.str _) (.cons (.str _) .nil)))) ⟨rfl, mx, trivial⟩
      refine itN c6 ⟨.int way, rfl, way, 8, rfl, rfl, _, rfl, ?_⟩
      by_cases c8 : way < 8
      · refine itD c8 ⟨.str x, rfl, .str y, rfl, .str z, rfl, (by show 4 ≤ sizeLine; decide), fun t1 n1 => ⟨.str x, rfl, .str y, rfl, l3, fun t2 n2 => ⟨l2, fun L nL => ?_⟩⟩⟩
        obtain ⟨x4, D4⟩ := new (o := .tup [.str (Str.ofString "mix"), .str x, .str y, .str z]) .refl D2 n1
        obtain ⟨x5, D5⟩ := new (o := .tup [.str (Str.ofString "open"), .str x, .str y]) x4 D4 n2
        have e5 : Ex [] (upd H2 t1 (.tup [.str (Str.ofString "mix"), .str x, .str y, .str z])) (upd (upd H2 t1 (.tup [.str (Str.ofString "mix"), .str x, .str y, .str z])) t2 (.tup [.str (Str.ofString "open"), .str x, .str y])) := .new n2
        obtain ⟨x6, D6⟩ := new (o := .lst [.ref t1, .ref t2]) x5 D5 nL
        have e6 : Ex [] (upd (upd H2 t1 (.tup [.str (Str.ofString "mix"), .str x, .str y, .str z])) t2 (.tup [.str (Str.ofString "open"), .str x, .str y])) (upd (upd (upd H2 t1 (.tup [.str (Str.ofString "mix"), .str x, .str y, .str z])) t2 (.tup [.str (Str.ofString "open"), .str x, .str y])) L (.lst [.ref t1, .ref t2])) := .new nL
        refine ⟨.int way, rfl, way, 6, rfl, rfl, ?_⟩
        rcases (show way = 6 ∨ way = 7 by omega) with e | e
        · subst e
          refine ⟨L, _, 0, .ref t1, rfl, rfl, .of upd_same, at0, ?_⟩
          exact fin _ _ (.mix x y z) x6 D6 (.tup (.of (e6.tup (e5.tup upd_same))) (.cons (.str _) (.cons (.str _) (.cons (.str _) (.cons (.str _) .nil))))) ⟨rfl, mx, trivial⟩
        · subst e
          refine ⟨L, _, 1, .ref t2, rfl, rfl, .of upd_same, at1, ?_⟩
          exact fin _ _ (.opn x y) x6 D6 (.tup (.of (e6.tup upd_same)) (.cons (.str _) (.cons (.str _) (.cons (.str _) .nil)))) ⟨rfl, mx, trivial⟩
      refine itN c8 ⟨.int way, rfl, rfl, _, rfl, ?_⟩
      by_cases c9 : way = 8
      · refine itD (by rw [c9]) ⟨.str x, rfl, l2, fun t nt => ?_⟩
        obtain ⟨x4, D4⟩ := new (o := .tup [.str (Str.ofString "tell"), .str x]) .refl D2 nt
        exact fin _ _ (.tell x) x4 D4 (.tup (.of upd_same) (.cons (.str _) (.cons (.str _) .nil))) ⟨rfl, trivial, trivial⟩
      refine itN (ni 8 c9) ⟨.int way, rfl, rfl, _, rfl, ?_⟩
      by_cases c10 : way = 9
      · refine itD (by rw [c10]) ⟨.ref d, rfl, .ref cs, rfl, cs, _, rfl, C2.gb, .ref d, rfl, d, 1, 5, rfl, D2, by decide, fun H3 v hv x3 D3 => ?_⟩
        have C3 := C2.ex x3 (by simpa using cd) (by simpa using bd) (by simpa using wd)
        refine ⟨1, v, rfl, rfl, d, bl, bs, 1 + v, rfl, D3, C3.b, by omega, by omega, fun H4 t qs x4 D4 ht ndq mq lq => ⟨l2, fun u nu => ?_⟩⟩
        obtain ⟨x5, D5⟩ := new (o := .tup [.str (Str.ofString "drop"), .ref t]) (x3.trans x4) D4 nu
        have e5 : Ex [] H4 (upd H4 u (.tup [.str (Str.ofString "drop"), .ref t])) := .new nu
        exact fin _ _ (.drop qs) x5 D5 (.tup (.of upd_same) (.cons (.str _) (.cons (.tup (e5.seqT ht) (TpAll.strs _)) .nil))) ⟨rfl, show qs.length < 64 by omega, ndq ndb⟩
      refine itN (ni 9 c10) ?_
      obtain ⟨sx, rx, ex, lx⟩ := split_head x
      obtain ⟨b0, br, rfl⟩ : ∃ b0 br, bs = b0 :: br := by
        match bs, lb1 with
        | b0 :: br, _ => exact ⟨b0, br, rfl⟩
      obtain ⟨s0, r0, e0, l0'⟩ := split_head b0
      have bx := (hBx x mx).len
      have bx0 := (hBx b0 (by simp)).len
      have szl : ∀ n : Nat, n ≤ 30 → n + 2 ≤ sizeLine := fun n h => by rw [sizeLine_eq]; omega
      refine ⟨.str x, rfl, l2, fun t1 n1 => ?_⟩
      obtain ⟨x4, D4⟩ := new (o := .tup [.str (Str.ofString "wipe"), .str x]) .refl D2 n1
      have e4 : Ex [] H2 (upd H2 t1 (.tup [.str (Str.ofString "wipe"), .str x])) := .new n1
      refine ⟨.str x, rfl, ⟨_, rfl⟩, x, dotS, rfl, rfl, (by decide +kernel), szl _ bx, fun p1 m1 => ?_⟩
      rw [ex]
      have e5 : Ex [] (upd H2 t1 (.tup [.str (Str.ofString "wipe"), .str x])) (upd (upd H2 t1 (.tup [.str (Str.ofString "wipe"), .str x])) p1 (.lst ((sx :: rx).map V.str))) := .new m1
      refine ⟨p1, _, 0, _, rfl, rfl, .of upd_same, at0, l2, fun t2 n2 => ?_⟩
      generalize hH5 : upd (upd H2 t1 (.tup [.str (Str.ofString "wipe"), .str x])) p1 (.lst ((sx :: rx).map V.str)) = H5 at e5 n2
      have e6 : Ex [] H5 (upd H5 t2 (.tup [.str (Str.ofString "clear"), .str sx])) := .new n2
      have e46 := (e4.trans e5).trans e6
      have C6 := C2.ex e46 (by simp) (by simp) (by simp)
      refine ⟨.ref cs, rfl, cs, _, rfl, C6.gb, bl, _, 0, _, rfl, rfl, .of C6.b, at0, ⟨_, rfl⟩, b0, dotS, rfl, rfl, (by decide +kernel), szl _ bx0, fun p2 m2 => ?_⟩
      rw [e0]
      have e7 : Ex [] (upd H5 t2 (.tup [.str (Str.ofString "clear"), .str sx])) (upd (upd H5 t2 (.tup [.str (Str.ofString "clear"), .str sx])) p2 (.lst ((s0 :: r0).map V.str))) := .new m2
      refine ⟨p2, _, 0, _, rfl, rfl, .of upd_same, at0, l2, fun t3 n3 => ⟨l3, fun L nL => ?_⟩⟩
      have e8 : Ex [] (upd (upd H5 t2 (.tup [.str (Str.ofString "clear"), .str sx])) p2 (.lst ((s0 :: r0).map V.str))) (upd (upd (upd H5 t2 (.tup [.str (Str.ofString "clear"), .str sx])) p2 (.lst ((s0 :: r0).map V.str))) t3 (.tup [.str (Str.ofString "clear"), .str s0])) := .new n3
      have h3 := upd_same (H := upd (upd H5 t2 (.tup [.str (Str.ofString "clear"), .str sx])) p2 (.lst ((s0 :: r0).map V.str))) (a := t3) (o := .tup [.str (Str.ofString "clear"), .str s0])
      have h2 := e8.tup (e7.tup (upd_same (H := H5) (a := t2) (o := .tup [.str (Str.ofString "clear"), .str sx])))
      have h1 := e8.tup (e7.tup (e6.tup (e5.tup (upd_same (H := H2) (a := t1) (o := .tup [.str (Str.ofString "wipe"), .str x])))))
      have e28 := (e46.trans e7).trans e8
      generalize upd (upd (upd H5 t2 (.tup [.str (Str.ofString "clear"), .str sx])) p2 (.lst ((s0 :: r0).map V.str))) t3 (.tup [.str (Str.ofString "clear"), .str s0]) = H8 at h1 h2 h3 e28 nL
      have e9 : Ex [] H8 (upd H8 L (.lst [.ref t1, .ref t2, .ref t3])) := .new nL
      have D8 := D2.ex e28 (by simp)
      have dL : d ≠ L := fun z => by
        obtain ⟨c, s, zs, h, _⟩ := D8
        rw [z, nL] at h; cases h
      refine ⟨.ref d, rfl, d, 3, rfl, D8.ex e9 (by simp), by decide, by decide, fun H10 u u0 u1 x10 D10 => ?_⟩
      have hL := x10.lst (upd_same (H := H8) (a := L) (o := .lst [.ref t1, .ref t2, .ref t3])) (by simpa using dL.symm)
      have x210 : Ex [d] H2 H10 := ((e28.trans e9).mono (by simp)).trans x10
      have k1 := x10.tup (e9.tup h1)
      have k2 := x10.tup (e9.tup h2)
      have k3 := x10.tup (e9.tup h3)
      rcases (show u = 0 ∨ u = 1 ∨ u = 2 by omega) with rfl | rfl | rfl
      · exact ⟨L, _, 0, _, rfl, rfl, .of hL, at0, fin _ _ (.wipe x) x210 D10 (.tup (.of k1) (.cons (.str _) (.cons (.str _) .nil))) ⟨rfl, trivial, show x.length ≤ 1000 by omega⟩⟩
      · exact ⟨L, _, 1, _, rfl, rfl, .of hL, at1, fin _ _ (.clear sx) x210 D10 (.tup (.of k2) (.cons (.str _) (.cons (.str _) .nil))) ⟨rfl, show sx.length ≤ 1000 by omega, trivial⟩⟩
      · exact ⟨L, _, 2, _, rfl, rfl, .of hL, at2, fin _ _ (.clear s0) x210 D10 (.tup (.of k3) (.cons (.str _) (.cons (.str _) .nil))) ⟨rfl, show s0.length ≤ 1000 by omega, trivial⟩⟩
end
end K10

set_option maxHeartbeats 4000000
namespace K10
open PySem PySem.Spec PyProof.Rows L2 Kk RZ
abbrev s_formed : Stmt := topS 47
abbrev n_formed : List Str := ["_law_found", "_law_one"]
theorem sc_formed : FnScope n_formed ["_law_found"] (defScope s_formed) := ⟨rfl, rfl, rfl, by decide +kernel, rfl, by decide +kernel, by decide +kernel⟩
/-- texts, numbers, and tuples of such, so deep -/
def fmD : Nat → PyData → Prop
  | _, .str _ => True
  | _, .int _ => True
  | n + 1, .tuple ds => ∀ d ∈ ds, fmD n d
  | _, _ => False
theorem tup_ty {K : PySem.W.Frag} {H : Hp} {a : Addr} {xs : List V} (h : SqT K H a xs) : TyX K H (.ref a) (.type "tuple") := by
  rcases h with (h | ⟨o, h⟩) | ⟨o, its, n, h1, h2, _⟩
  · exact .base (.tup h)
  · exact .fTuple h
  · exact .kTuple h1 h2
section
variable {P : Program} {w : World} {K : PySem.W.Frag} {mg : Str → Option Value} {base : Heap}
def spFormed (K : PySem.W.Frag) (n : Nat) : Sp := fun vs H Q _ => ∃ (v : V) (d : PyData), vs = [v] ∧ Tp K H v d ∧ fmD n d ∧ ∀ H', Ex [] H H' → Q (.bl true) H'
theorem ok_formed {f fM : Addr} {fd fdM : FuncData} {k n : Nat} {spM : Sp} (F : Fun K "_law_formed" "_law_formed" s_formed f fd) (C__law_formed : Cl P w K mg base k "_law_formed" ["_law_found"] spM fM fdM) (hM : ∀ m, n = m + 1 → spM = spFormed K m)
    (m_isinstance : mg "isinstance" = none) (m_tuple : mg "tuple" = none) (m_str : mg "str" = none) (m_int : mg "int" = none) (m_bool : mg "bool" = none) : FnOk P w K mg base CX0 (k + 1) f fd ["_law_found"] (spFormed K n) := by
  refine F.ok sc_formed (fun vs H Q E h => ?_) (fun cdv A outer s H vs Q E hr h => ?_)
  · obtain ⟨v, d, rfl, _⟩ := h; rfl
  · obtain ⟨v, d, rfl, hT, hf, q⟩ := h
    refine ⟨_, (pss_cons (ps_if (pt_val (pe_callB call_isi (by rfl) m_isinstance (by decide +kernel) (pa_cons (pv 0) (pa_cons (pe_bltn (v := .ty "tuple") (by rfl) m_tuple (by decide +kernel) rfl) pa_nil)))) (pss_one (ps_ret (pe_cmpR (op_eq_nil hr) (pe_lc (own := [("_law_one", 1)]) (g := gName 1) rfl sc_formed.nd (pi_tup (pv 0)) (blkOk_by (N := n_formed) (sc := defScope s_formed) (by decide +kernel)) (fun _ _ _ _ _ => pg_name (i := 1) sc_formed.nd rfl (Or.inl rfl)) (fun _ _ _ _ _ => pts_one (pt_not (pt_val (pe_call C__law_formed.g hr (by rfl) C__law_formed.m C__law_formed.k C__law_formed.b .nil pass0 (pa_cons (pv 1) pa_nil))))) (fun _ _ _ _ _ => (pv 1))) (pe_lst pa_nil) (nomark _)))) pss_nil)
      (pss_one (ps_ret (pe_or (pe_callB call_isi (by rfl) m_isinstance (by decide +kernel) (pa_cons (pv 0) (pa_cons (pe_bltn (v := .ty "str") (by rfl) m_str (by decide +kernel) rfl) pa_nil))) (pe_one (pe_and (pe_callB call_isi (by rfl) m_isinstance (by decide +kernel) (pa_cons (pv 0) (pa_cons (pe_bltn (v := .ty "int") (by rfl) m_int (by decide +kernel) rfl) pa_nil))) (pe_one (pe_not (pe_callB call_isi (by rfl) m_isinstance (by decide +kernel) (pa_cons (pv 0) (pa_cons (pe_bltn (v := .ty "bool") (by rfl) m_bool (by decide +kernel) rfl) pa_nil))))))))))), ?_⟩
    cases hT with
    | str x =>
      refine ⟨.str x, rfl, .str x, .ty "tuple", .type "str", .type "tuple", false, rfl, .ty "tuple", .base (.str x), kit_ty (by decide +kernel), _, rfl, iteF ?_⟩
      exact ⟨.str x, rfl, .str x, .ty "str", .type "str", .type "str", true, rfl, .ty "str", .base (.str x), kit_ty (by decide +kernel), _, rfl, q H .refl⟩
    | int i =>
      refine ⟨.int i, rfl, .int i, .ty "tuple", .type "int", .type "tuple", false, rfl, .ty "tuple", .base (.int i), kit_ty (by decide +kernel), _, rfl, iteF ?_⟩
      refine ⟨.int i, rfl, .int i, .ty "str", .type "int", .type "str", false, rfl, .ty "str", .base (.int i), kit_ty (by decide +kernel), _, rfl, iteF ?_⟩
      refine ⟨.int i, rfl, .int i, .ty "int", .type "int", .type "int", true, rfl, .ty "int", .base (.int i), kit_ty (by decide +kernel), _, rfl, iteT ?_⟩
      exact ⟨.int i, rfl, .int i, .ty "bool", .type "int", .type "bool", false, rfl, .ty "bool", .base (.int i), kit_ty (by decide +kernel), _, rfl, q H .refl⟩
    | tup hs ha =>
      rename_i a xs ds
      cases n with
      | zero => exact hf.elim
      | succ m =>
        have hd : ∀ d ∈ ds, fmD m d := hf
        have e := hM m rfl
        subst e
        refine ⟨.ref a, rfl, .ref a, .ty "tuple", .type "tuple", .type "tuple", true, rfl, .ty "tuple", tup_ty hs, kit_ty (by decide +kernel), _, rfl, iteT ?_⟩
        refine ⟨.ref a, rfl, a, rfl, ⟨xs, hs⟩, fun D nD => ?_⟩
        refine lc_tup (a := a) (xs := xs) (fun i H2 => H2 D = some (.lst []) ∧ Ex [] H H2) ?_ ?_ ?_ ?_
        · exact ⟨upd_same, .new nD⟩
        · rintro i H2 _ ⟨_, x2⟩
          exact x2.seqT hs
        · rintro i x H2 hx ⟨hD, x2⟩
          obtain ⟨d0, hd0, tx⟩ := ha.get hx
          refine ⟨rfl, x, rfl, x, d0, rfl, tx.ex x2, hd d0 (List.mem_of_getElem? hd0), fun H3 x3 => ⟨_, rfl, iteF ?_⟩⟩
          exact ⟨x3.lst hD, x2.trans x3⟩
        · rintro H2 ⟨hD, x2⟩
          refine ⟨Nat.zero_le _, fun L nL => ?_⟩
          have xL : Ex [] H2 (upd H2 L (.lst [])) := .new nL
          exact ⟨D, L, [], rfl, rfl, .of (xL.lst hD), .of upd_same, q _ (x2.trans xL)⟩
    | _ => exact (by cases n <;> exact hf.elim)
end
end K10

namespace Kk
open PySem PySem.Spec PyProof.Rows L2
/-! list(text); sorted(a list of data) -/
def sgV : Value → V
  | .str x _ => .str x
  | _ => .non
theorem vals_sg : ∀ l : List Value, (∀ v ∈ l, ∃ x t, v = Value.str x t) → Vals (l.map sgV) l
  | [], _ => .nil
  | v :: l, h => by
    obtain ⟨x, t, rfl⟩ := h v List.mem_cons_self
    exact .cons ⟨t, rfl⟩ (vals_sg l fun u m => h u (List.mem_cons_of_mem _ m))
section
variable {X : Cx}
theorem call_listS (hc : X.calm = true) : CallR X (.type "list") (fun xs H Q => ∃ z : Str, xs = [.str z] ∧ z.length ≤ sizeLine ∧ ∀ (l : Addr) (ys : List V), H l = none → Q (.ref l) (upd H l (.lst ys))) := by
  intro pins s σ H xs us Q I r h
  obtain ⟨z, rfl, hz, q⟩ := h
  obtain ⟨u, rfl, t, rfl⟩ := vals1 r
  refine call_list_str (I.ok.hd hc) z t (fun h' tk acc c kp e it => ?_) hz
  have hv : ∀ v ∈ acc.toList, ∃ x t, v = Value.str x t := fun v m => by
    obtain ⟨i, hi, ei⟩ := List.getElem_of_mem m
    obtain ⟨c', u, _, e'⟩ := it.2 i v (by rw [← Array.getElem?_toList, List.getElem?_eq_getElem hi, ei])
    exact ⟨_, u, e'⟩
  have hl : (acc.toList.map sgV).length ≤ sizeLine := by
    rw [List.length_map, Array.length_toList, it.1]; exact hz
  have e2 : h'.get? s.heap.objs.size = some { cls := .type "list", dict := none, data := .seq acc.toList.toArray c, slots := #[] } := by rw [Array.toArray_toList]; exact e
  exact ⟨.ref s.heap.objs.size, _, I.laid (t' := tk) kp (Nat.le_refl _) (show ObjOk X.prog X.w _ h' _ (.lst (acc.toList.map sgV)) from ⟨hl, acc.toList, c, vals_sg _ hv, e2⟩), rfl, q _ _ (I.hok.fresh (Nat.le_refl _))⟩
theorem vals_app1 {us : List V} {its : List Value} (h : Vals us its) : ∀ {i : Nat} {v : Value}, its[i]? = some v → ∃ u, us[i]? = some u ∧ RelV u v := by
  induction h with
  | nil => intro i v e; simp at e
  | cons a b ih =>
    intro i v e
    cases i with
    | zero => cases e; exact ⟨_, rfl, a⟩
    | succ i => exact ih (i := i) (by simpa using e)
theorem each_of {K : PySem.W.Frag} {H : Hp} {enc : Str → PyData} : ∀ {us : List V} {its : List Value} {qs : List Str}, Vals us its → TpAll K H us (qs.map enc) → PySem.W.EachIs (fun v q => ∃ u, RelV u v ∧ Tp K H u (enc q)) its qs
  | _, _, [], r, h => by cases h; cases r; exact .nil
  | _, _, q :: qs, r, h => by
    rw [List.map_cons] at h
    cases h with
    | cons a b =>
      cases r with
      | cons x y => exact .cons ⟨_, x, a⟩ (each_of y b)
theorem of_each {K : PySem.W.Frag} {H : Hp} {enc : Str → PyData} : ∀ {its : List Value} {qs : List Str}, PySem.W.EachIs (fun v q => ∃ u, RelV u v ∧ Tp K H u (enc q)) its qs → ∃ us, Vals us its ∧ TpAll K H us (qs.map enc)
  | _, _, .nil => ⟨[], .nil, .nil⟩
  | _, _, .cons ⟨u, r, t⟩ h => by
    obtain ⟨us, r2, t2⟩ := of_each h
    exact ⟨u :: us, .cons r r2, .cons t t2⟩
/-- sorted(a list that reads as data, by boxes) -/
def rSortDt (K : PySem.W.Frag) : List V → Hp → VK → Prop := fun vs H Q => ∃ (a : Addr) (us : List V) (qs : List Str) (enc : Str → PyData), vs = [V.ref a] ∧ SqL K H a us ∧ TpAll K H us (qs.map enc) ∧ (∀ b b', PySem.W.alike (enc b) (enc b') = true) ∧ (∀ b, ∃ x r, enc b = .tuple (x :: r)) ∧ (∀ b, (enc b).depth ≤ 60) ∧
  ∀ (ys : List V) (p : Addr), H p = none → TpAll K (upd H p (.lst ys)) ys ((qs.mergeSort (PySem.W.dataLe false enc)).map enc) → Q (.ref p) (upd H p (.lst ys))
theorem cr_sortDt {K : PySem.W.Frag} (hK : X.K = K) (hu : X.A.units + 64 < cLine) : CallR X (.builtin "sorted") (rSortDt K) := by
  subst hK
  intro pins s σ H vs us Q I r h
  obtain ⟨a, xs, qs, enc, rfl, hs, ht, hal, htu, hdp, q⟩ := h
  obtain ⟨its, rv, hl, hz⟩ := I.list hs
  obtain ⟨u, rfl, ru⟩ := vals1 r
  obtain rfl : u = Value.ref a := ru
  have E := each_of rv ht
  have lq : qs.length = xs.length := by have := ht.len; rw [List.length_map] at this; exact this.symm
  refine PySem.W.sorted_data (enc := enc) hl.isList E (E.mono fun v b ⟨u, r1, t1⟩ => Dp.reads I _ u v t1.dp r1) (PySem.W.AllAlike.of hal) (PySem.W.Sortable.tuples htu) (by omega) (fun b _ => by have := hdp b; omega) fun out lo eo => ?_
  obtain ⟨ys, ry, ty⟩ := of_each eo
  obtain ⟨ep, he'⟩ := sortedAll_at s.heap its (List.toArray out)
  have hlen : ys.length ≤ sizeLine := by rw [ry.length, lo]; omega
  have fr : H (s.heap.objs.size + 1) = none := I.hok.fresh (Nat.le_succ _)
  exact ⟨.ref _, upd H (s.heap.objs.size + 1) (.lst ys), I.laid (t' := s.toks) (fun _ _ z => sortedAll_old z) (Nat.le_succ _) ⟨hlen, out, ep, ry, he'⟩, rfl, q _ _ fr (ty.ex (.new fr (xs := [])))⟩
end
end Kk

namespace Kk
open PySem PySem.Spec PyProof.Rows L2
/-! the same data are equal -/
theorem yes_all (n : Nat) : (List.range n).all (fun _ => true) = true := by simp
theorem depth_get : ∀ {ds : List PyData} {i : Nat} {d : PyData}, ds[i]? = some d → d.depth ≤ PyData.depthAll ds
  | [], i, d, h => by simp at h
  | x :: xs, 0, d, h => by
    cases h
    show PyData.depth _ ≤ max (PyData.depth _) _
    omega
  | x :: xs, i + 1, d, h => by
    have := depth_get (ds := xs) (i := i) (by simpa using h)
    show d.depth ≤ max x.depth (PyData.depthAll xs)
    omega
theorem vals_at {xs : List V} {its : List Value} (r : Vals xs its) {j : Nat} (h : j < its.length) : ∃ x, xs[j]? = some x ∧ RelV x its[j] := by
  have hj : j < xs.length := by rw [r.length]; exact h
  obtain ⟨u, hu, ru⟩ := r.get (List.getElem?_eq_getElem hj)
  refine ⟨_, List.getElem?_eq_getElem hj, ?_⟩
  have := (List.getElem?_eq_some_iff.mp hu).2
  rw [this]; exact ru
section
variable {X : Cx} {pins : List (Addr × Obj)} {σ : L2.St} {H : Hp} {s : Shared}
theorem same_at (I : Inv X pins σ H s) : ∀ (n : Nat) (d : PyData) (A : Around) (x y : V) (v u : Value), d.depth ≤ n → A.units + n < cLine → Tp X.K H x d → Tp X.K H y d → RelV x v → RelV y u → SeqAt.EqAt A s v u true := by
  intro n
  induction n with
  | zero =>
    intro d A x y v u hd hu hx hy rx ry
    cases hx with
    | non => cases hy; cases rx; cases ry; exact SeqAt.EqAt.same _
    | bl b => cases hy; cases rx; cases ry; exact SeqAt.EqAt.same _
    | int i =>
      cases hy
      obtain ⟨t, rfl⟩ := rx
      obtain ⟨t', rfl⟩ := ry
      have := SeqAt.EqAt.int_int (A := A) (s := s) i t i t'
      rwa [beq_self_eq_true] at this
    | str z =>
      cases hy
      obtain ⟨t, rfl⟩ := rx
      obtain ⟨t', rfl⟩ := ry
      have := SeqAt.EqAt.str_str (A := A) (s := s) z t z t'
      rwa [beq_self_eq_true] at this
    | tup => exact absurd hd (by show ¬ (PyData.depthAll _ + 1 ≤ 0); omega)
  | succ n ih =>
    intro d A x y v u hd hu hx hy rx ry
    cases hx with
    | non => cases hy; cases rx; cases ry; exact SeqAt.EqAt.same _
    | bl b => cases hy; cases rx; cases ry; exact SeqAt.EqAt.same _
    | int i =>
      cases hy
      obtain ⟨t, rfl⟩ := rx
      obtain ⟨t', rfl⟩ := ry
      have := SeqAt.EqAt.int_int (A := A) (s := s) i t i t'
      rwa [beq_self_eq_true] at this
    | str z =>
      cases hy
      obtain ⟨t, rfl⟩ := rx
      obtain ⟨t', rfl⟩ := ry
      have := SeqAt.EqAt.str_str (A := A) (s := s) z t z t'
      rwa [beq_self_eq_true] at this
    | @tup a xs ds hs ha =>
      cases hy with
      | @tup b ys _ hs2 hb =>
        cases (show v = Value.ref a from rx)
        cases (show u = Value.ref b from ry)
        by_cases hab : a = b
        · rw [hab]; exact SeqAt.EqAt.same _
        · obtain ⟨its, r, pt, hz⟩ := I.tuple hs
          obtain ⟨its2, r2, pt2, hz2⟩ := I.tuple hs2
          have l1 : its.length = ds.length := by rw [← r.length, ha.len]
          have l2 : its2.length = ds.length := by rw [← r2.length, hb.len]
          have hd' : PyData.depthAll ds ≤ n := by
            have : PyData.depthAll ds + 1 ≤ n + 1 := hd
            omega
          have h1 := SeqAt.RcAt.tuples (A := A) (s := s) (e := fun _ => true) pt pt2 (by omega) (fun j h1 h2 => by
            have j1 : j < its.length := by simpa using h1
            have j2 : j < its2.length := by simpa using h2
            obtain ⟨x', ex, rx'⟩ := vals_at r j1
            obtain ⟨y', ey, ry'⟩ := vals_at r2 j2
            obtain ⟨dj, ed, tx⟩ := ha.get ex
            obtain ⟨dj2, ed2, ty⟩ := hb.get ey
            rw [ed] at ed2; cases ed2
            have := ih dj A.in1 x' y' _ _ (Nat.le_trans (depth_get ed) hd') (show A.units + 1 + n < cLine by omega) tx ty rx' ry'
            simpa using this)
          rw [yes_all] at h1
          have e : (its.toArray.size == its2.toArray.size) = true := by simp [l1, l2]
          rw [e] at h1
          exact SeqAt.EqAt.of_refs hab h1
end
section
variable {X : Cx} {K : PySem.W.Frag}
def rSameNe (K : PySem.W.Frag) : V → V → Hp → VK → Prop := fun x y H Q => ∃ d, Tp K H x d ∧ Tp K H y d ∧ d.depth ≤ 64 ∧ Q (.bl false) H
def rSameEq (K : PySem.W.Frag) : V → V → Hp → VK → Prop := fun x y H Q => ∃ d, Tp K H x d ∧ Tp K H y d ∧ d.depth ≤ 64 ∧ Q (.bl true) H
theorem op_neSame (h : X.K = K) (hu : X.A.units + 64 < cLine) : OpR X (compareOp .NotEq) (rSameNe K) := by
  subst h
  intro pins s σ H x y v u Q I rx ry h
  obtain ⟨d, hx, hy, hd, q⟩ := h
  have I0 := I
  cases hx with
  | non =>
    cases hy; cases rx; cases ry
    exact SeqAt.RcNeAt.none_none X.prog X.w X.xe _ ⟨.bl false, H, I, rfl, q⟩
  | bl b =>
    cases hy; cases rx; cases ry
    refine SeqAt.RcNeAt.bool_bool b b X.prog X.w X.xe _ ⟨.bl false, H, I, ?_, q⟩
    rw [beq_self_eq_true]; rfl
  | int i =>
    cases hy
    obtain ⟨t, rfl⟩ := rx
    obtain ⟨t', rfl⟩ := ry
    refine SeqAt.RcNeAt.int_int i t i t' X.prog X.w X.xe _ ⟨.bl false, H, I, ?_, q⟩
    rw [beq_self_eq_true]; rfl
  | str z =>
    cases hy
    obtain ⟨t, rfl⟩ := rx
    obtain ⟨t', rfl⟩ := ry
    refine SeqAt.RcNeAt.str_str z t z t' X.prog X.w X.xe _ ⟨.bl false, H, I, ?_, q⟩
    rw [beq_self_eq_true]; rfl
  | @tup a xs ds hs ha =>
    cases hy with
    | @tup b ys _ hs2 hb =>
      cases (show v = Value.ref a from rx)
      cases (show u = Value.ref b from ry)
      obtain ⟨its, r, pt, hz⟩ := I.tuple hs
      obtain ⟨its2, r2, pt2, hz2⟩ := I.tuple hs2
      have l1 : its.length = ds.length := by rw [← r.length, ha.len]
      have l2 : its2.length = ds.length := by rw [← r2.length, hb.len]
      have hd' : PyData.depthAll ds ≤ 63 := by
        have : PyData.depthAll ds + 1 ≤ 64 := hd
        omega
      refine SeqAt.RcNeAt.tuples (e := fun _ => true) pt pt2 (by omega) (fun j h1 h2 => ?_) X.prog X.w X.xe _ ⟨.bl false, H, I, ?_, q⟩
      · have j1 : j < its.length := by simpa using h1
        have j2 : j < its2.length := by simpa using h2
        obtain ⟨x', ex, rx'⟩ := vals_at r j1
        obtain ⟨y', ey, ry'⟩ := vals_at r2 j2
        obtain ⟨dj, ed, tx⟩ := ha.get ex
        obtain ⟨dj2, ed2, ty⟩ := hb.get ey
        rw [ed] at ed2; cases ed2
        have := same_at I0 63 dj X.A.in1 x' y' _ _ (Nat.le_trans (depth_get ed) hd') (show X.A.units + 1 + 63 < cLine by omega) tx ty rx' ry'
        simpa using this
      · rw [yes_all]
        have e : (its.toArray.size == its2.toArray.size) = true := by simp [l1, l2]
        rw [e]; rfl
theorem op_eqSame (h : X.K = K) (hu : X.A.units + 64 < cLine) : OpR X (compareOp .Eq) (fun x y H Q => ∃ a b ds xs ys, x = .ref a ∧ y = .ref b ∧ SqT K H a xs ∧ SqT K H b ys ∧ TpAll K H xs ds ∧ TpAll K H ys ds ∧ PyData.depthAll ds ≤ 63 ∧ Q (.bl true) H) := by
  subst h
  intro pins s σ H x y v u Q I rx ry h
  obtain ⟨a, b, ds, xs, ys, rfl, rfl, hs, hs2, ha, hb, hd', q⟩ := h
  cases (show v = Value.ref a from rx)
  cases (show u = Value.ref b from ry)
  obtain ⟨its, r, pt, hz⟩ := I.tuple hs
  obtain ⟨its2, r2, pt2, hz2⟩ := I.tuple hs2
  have l1 : its.length = ds.length := by rw [← r.length, ha.len]
  have l2 : its2.length = ds.length := by rw [← r2.length, hb.len]
  refine SeqAt.eq_tupleAt (e := fun _ => true) pt pt2 (by omega) (fun j h1 h2 => ?_) ⟨.bl true, H, I, ?_, q⟩
  · have j1 : j < its.length := by simpa using h1
    have j2 : j < its2.length := by simpa using h2
    obtain ⟨x', ex, rx'⟩ := vals_at r j1
    obtain ⟨y', ey, ry'⟩ := vals_at r2 j2
    obtain ⟨dj, ed, tx⟩ := ha.get ex
    obtain ⟨dj2, ed2, ty⟩ := hb.get ey
    rw [ed] at ed2; cases ed2
    have := same_at I 63 dj X.A.in1 x' y' _ _ (Nat.le_trans (depth_get ed) hd') (show X.A.units + 1 + 63 < cLine by omega) tx ty rx' ry'
    simpa using this
  · rw [yes_all]
    have e : (its.toArray.size == its2.toArray.size) = true := by simp [l1, l2]
    rw [e]; rfl
/-- a tuple held against () -/
theorem op_neNilT (h : X.K = K) (hu : X.A.units + 64 < cLine) : OpR X (compareOp .NotEq) (fun x y H Q => ∃ a b xs, x = .ref a ∧ y = .ref b ∧ SqT K H a xs ∧ SqT K H b [] ∧ Q (.bl (!xs.isEmpty)) H) := by
  subst h
  intro pins s σ H x y v u Q I rx ry h
  obtain ⟨a, b, xs, rfl, rfl, ha, hb, q⟩ := h
  cases (show v = Value.ref a from rx)
  cases (show u = Value.ref b from ry)
  obtain ⟨its, r, pt, hz⟩ := I.tuple ha
  obtain ⟨its2, r2, pt2, hz2⟩ := I.tuple hb
  cases r2
  refine SeqAt.RcNeAt.tuples (e := fun _ => true) pt pt2 (by omega) (fun j h1 h2 => absurd h2 (Nat.not_lt_zero j)) X.prog X.w X.xe _ ⟨.bl (!xs.isEmpty), H, I, ?_, q⟩
  rw [yes_all]
  cases r with
  | nil => rfl
  | cons _ _ => simp; rfl
end
end Kk

set_option maxHeartbeats 4000000
namespace Kk
open PySem PySem.Spec PyProof.Rows L2
theorem call_isiB {X : Cx} {K : PySem.W.Frag} (h : X.K = K) : CallR X (.builtin "isinstance") (rIsi K) := by subst h; exact call_isi
theorem ix_listB {X : Cx} {K : PySem.W.Frag} (h : X.K = K) : IxR X (rIxL K) := by subst h; exact ix_list
theorem ix_tupB {X : Cx} {K : PySem.W.Frag} (h : X.K = K) : IxR X (rIxT K) := by subst h; exact ix_tup
/-- (0, ()) -/
def tZero : TE := fun σ H Q => ∀ Z, H Z = none → ∀ T, (upd H Z (.tup [])) T = none → Q (.ref T) (upd (upd H Z (.tup [])) T (.tup [.int 0, .ref Z]))
theorem pe_zero {X : Cx} {e : Expr} (h : PE X e (tTup (tCons (tC (.int 0)) (tCons (tTup tNil) tNil)))) : PE X e tZero := PE.by h fun σ H Q q => ⟨Nat.zero_le _, fun Z nZ => ⟨(by show 2 ≤ sizeLine; decide), fun T nT => q Z nZ T nT⟩⟩
end Kk
namespace K10
open PySem PySem.Spec PyProof.Rows L2 Kk RZ
abbrev s_done : Stmt := topS 48
abbrev n_done : List Str := ["_law_things", "_law_word", "_law_number", "_law_some_here", "_law_boxes_here", "_law_gone", "_law_worths", "_law_box", "_law_pair"]
theorem sc_done : FnScope n_done ["_law_things", "_law_word", "_law_number"] (defScope s_done) := ⟨rfl, rfl, rfl, by decide +kernel, rfl, by decide +kernel, by decide +kernel⟩
theorem zero_tp {K : PySem.W.Frag} {H : Hp} {Z T : Addr} (nZ : H Z = none) (nT : (upd H Z (.tup [])) T = none) : Ex [] H (upd (upd H Z (.tup [])) T (.tup [.int 0, .ref Z])) ∧ Tp K (upd (upd H Z (.tup [])) T (.tup [.int 0, .ref Z])) (.ref T) (wvD (0, [])) :=
  ⟨(Ex.new nZ).trans (.new nT), wv_mk (ws := []) (.of upd_same) (.of ((Ex.new nT (xs := [])).tup upd_same))⟩
/-! things, as a dict -/
theorem valV_drop {kvs : List (Key × V)} {k k' : Key} : valV (dropK kvs k) k' = if k' = k then none else valV kvs k' := by
  unfold valV dropK
  rw [List.find?_filter]
  by_cases e : k' = k
  · rw [if_pos e]
    have : kvs.find? (fun a => decide (decide (a.1 ≠ k) = true ∧ decide (a.1 = k') = true)) = none := by
      rw [List.find?_eq_none]
      intro p hp h
      simp only [decide_eq_true_eq] at h
      exact h.1 (by rw [h.2, e])
    rw [this]; rfl
  · rw [if_neg e]
    congr 2
    funext a
    by_cases z : a.1 = k'
    · have : a.1 ≠ k := fun y => e (by rw [← z, y])
      simp [z, e]
    · simp [z]
theorem Hd.pop {K : PySem.W.Frag} {H : Hp} {b : Addr} {kd Ws : List Str} {n : Nat} {f : Bq → Wv} {kvs : List (Key × V)} {q : Bq} (h1 : H b = some (.dK kvs)) (hD : Hd K H b kd Ws n f) : Hd K (upd H b (.dK (dropK kvs (qK q)))) b kd Ws n (setF f q (0, [])) := by
  obtain ⟨kvs', k1, k2, k3, k4, k5, k6, k7⟩ := hD
  rw [h1] at k1
  cases k1
  have e : Ex [b] H (upd H b (.dK (dropK kvs (qK q)))) := .put h1 (fun _ z => by cases z) (by simp)
  have vv : ∀ r, valV (dropK kvs (qK q)) (qK r) = if r = q then none else valV kvs (qK r) := fun r => by
    rw [valV_drop]
    by_cases z : r = q
    · rw [if_pos z, if_pos (by rw [z])]
    · rw [if_neg z, if_neg fun y => z (qK_inj y)]
  refine ⟨_, upd_same, Nat.le_trans (List.length_filter_le _ _) k2, ?_, fun kv m => k4 kv (List.mem_filter.mp m).1, fun r u hu => ?_, fun r hr => ?_, fun r => ?_⟩
  · exact k3.sublist ((List.filter_sublist).map _)
  · rw [vv] at hu
    unfold setF
    split at hu
    · cases hu
    · rename_i z
      rw [if_neg z]; exact (k5 r u hu).ex e
  · rw [vv] at hr
    unfold setF
    split at hr
    · rename_i z
      rw [if_pos z]
    · rename_i z
      rw [if_neg z]; exact k6 r hr
  · unfold setF
    split
    · exact ⟨by simp, fun s m => by cases m⟩
    · exact k7 r
theorem setF_zero {f : Bq → Wv} {q : Bq} (h : f q = (0, [])) : setF f q (0, []) = f := by
  funext r
  unfold setF
  split
  · rename_i z
    rw [z, h]
  · rfl
/-- what a dict gives, or nothing -/
theorem Hd.get {K : PySem.W.Frag} {H : Hp} {b : Addr} {kd Ws : List Str} {n : Nat} {f : Bq → Wv} {z : V} (hD : Hd K H b kd Ws n f) (tz : Tp K H z (wvD (0, []))) (q : Bq) : ∃ o, DGet H b (.str q) o ∧ Tp K H (o.getD z) (wvD (f q)) := by
  obtain ⟨kvs, k1, k2, k3, k4, k5, k6, k7⟩ := hD
  refine ⟨valV kvs (qK q), DGet.k (k := qK q) k1, ?_⟩
  cases hv : valV kvs (qK q) with
  | none =>
    show Tp K H z _
    rw [k6 q hv]; exact tz
  | some u => exact k5 q u hv
theorem Hd.isD {K : PySem.W.Frag} {H : Hp} {b : Addr} {kd Ws : List Str} {n : Nat} {f : Bq → Wv} (hD : Hd K H b kd Ws n f) : IsD H b := by
  obtain ⟨kvs, k1, _⟩ := hD
  exact .inl ⟨kvs, .inl k1⟩
/-- a text's beginning -/
theorem starts_cut (q x : Str) : decide (V.str (cutS q none (some ((x.length : Int) + 1))) = V.str (x ++ dotS)) = Txt.startswith q (x ++ dotS) := by
  have ly : (x ++ dotS).length = x.length + 1 := by rw [len_add, show dotS.length = 1 by decide +kernel]
  have lq : q.cps.toList.length = q.length := Array.length_toList
  have ec : (cutS q none (some ((x.length : Int) + 1))).cps.toList = q.cps.toList.take (x.length + 1) := by
    unfold cutS
    rw [show ((x.length : Int) + 1) = ((x.length + 1 : Nat) : Int) by omega, HT.sIx_none, HT.sIx_nat, List.drop_zero, Nat.sub_zero]
    show q.cps.toList.take (min (x.length + 1) q.length) = _
    by_cases h : x.length + 1 ≤ q.length
    · rw [Nat.min_eq_left h]
    · rw [Nat.min_eq_right (by omega), List.take_of_length_le (by omega), List.take_of_length_le (by omega)]
  unfold Txt.startswith
  rw [StrLaws.subAt_eq, List.drop_zero, ly]
  have inj : ∀ {a b : Str}, a.cps.toList = b.cps.toList → a = b := fun h => TL.ext_tl h
  by_cases h : q.cps.toList.take (x.length + 1) = (x ++ dotS).cps.toList
  · have l1 : x.length + 1 ≤ q.length := by
      have := congrArg List.length h
      rw [List.length_take, lq, show (x ++ dotS).cps.toList.length = x.length + 1 by rw [Array.length_toList]; exact ly] at this
      omega
    have e1 : cutS q none (some ((x.length : Int) + 1)) = x ++ dotS := inj (by rw [ec]; exact h)
    rw [e1, h, decide_eq_true rfl]
    simp
    omega
  · have e1 : ¬ V.str (cutS q none (some ((x.length : Int) + 1))) = V.str (x ++ dotS) := fun z => h (by rw [← ec, V.str.inj z])
    rw [decide_eq_false e1]
    have : (q.cps.toList.take (x.length + 1) == (x ++ dotS).cps.toList) = false := by
      cases z : q.cps.toList.take (x.length + 1) == (x ++ dotS).cps.toList with
      | false => rfl
      | true => exact absurd (eq_of_beq z) h
    rw [this, Bool.and_false]
/-! sorting by the first text -/
theorem merge_srt {enc : Str → PyData} {r : Str → List PyData} (he : ∀ q, enc q = .tuple (.str q :: r q)) (qs : List Str) : qs.mergeSort (PySem.W.dataLe false enc) = srtS qs := by
  refine (srtS_eq (List.mergeSort_perm _ _) (sorted_pw ?_)).symm
  have h := PySem.W.sort_pairwise (PySem.W.sortLe_total (PyProof.Rows.listOrd PyProof.Rows.itemOrd) false fun b => PySem.W.keyToks (enc b)) qs
  refine List.Pairwise.imp (fun {a b} z => ?_) h
  have z2 : (!PySem.W.dataLt (enc b) (enc a)) = true := z
  by_cases e : b = a
  · rw [e]; exact List.le_refl _
  · rw [he, he, PySem.W.dataLt_tuple, PySem.W.dataLt_cons (by simp [PySem.W.alike])] at z2
    have ne : ¬ PyData.eqv (.str b) (.str a) = true := by
      simp only [PyData.eqv, beq_iff_eq]
      exact e
    rw [if_neg ne, PySem.W.dataLt_str] at z2
    have : ¬ b.cps.toList < a.cps.toList := fun y => by rw [decide_eq_true y] at z2; cases z2
    exact List.not_lt.mp this
end K10

set_option maxHeartbeats 4000000
namespace K10
open PySem PySem.Spec PyProof.Rows L2 Kk RZ
def strsOf (ds : List PyData) : List Str := ds.filterMap fun d => match d with
  | .str s => some s
  | _ => none
def prD (f : Bq → Wv) (q : Str) : PyData := .tuple [.str q, .tuple ((f q).2.map .str)]
def nz (f : Bq → Wv) (q : Str) : Bool := decide (¬ (f q).2 = [])
noncomputable def outD (f : Bq → Wv) (W : Wo) (qs : List Str) : List PyData := if isDrop W = true then (srtS (qs.filter (nz f))).map (prD f) else []
theorem srtS_filter (bs : List Str) (p : Str → Bool) : srtS (bs.filter p) = (srtS bs).filter p := by
  obtain ⟨ys, pm, srt⟩ := srt_ex bs
  rw [srtS_eq pm srt]
  exact srtS_eq (pm.filter p) (sorted_pw ((pw_sorted srt).filter p))
theorem alike_strs : ∀ a b : List Str, PySem.W.alikeAll (a.map PyData.str) (b.map PyData.str) = true
  | [], _ => by simp [PySem.W.alikeAll]
  | _ :: _, [] => by simp [PySem.W.alikeAll]
  | x :: a, y :: b => by
    have := alike_strs a b
    simp [PySem.W.alikeAll, PySem.W.alike, this]
theorem depth_strs : ∀ l : List Str, PyData.depthAll (l.map PyData.str) ≤ 1 := by
  intro l
  induction l with
  | nil => exact Nat.zero_le _
  | cons a l ih =>
    show max (PyData.depth (.str a)) (PyData.depthAll (l.map .str)) ≤ 1
    have : PyData.depth (.str a) ≤ 1 := by unfold PyData.depth; omega
    omega
theorem pr_alike (f : Bq → Wv) (b b' : Str) : PySem.W.alike (prD f b) (prD f b') = true := by
  simp [prD, PySem.W.alike, PySem.W.alikeAll, alike_strs]
theorem pr_depth (f : Bq → Wv) (b : Str) : (prD f b).depth ≤ 60 := by
  have := depth_strs (f b).2
  simp only [prD, PyData.depth, PyData.depthAll]
  omega
section
variable {P : Program} {w : World} {K : PySem.W.Frag} {mg : Str → Option Value} {base : Heap}
/-- what the boxes of a word hold -/
def tSome (K : PySem.W.Frag) : TS := fun D σ H => ∃ (tb : Addr) (wv num : V) (W : Wo) (kd Ws : List Str) (n : Nat) (f : Bq → Wv), σ = [some (.ref tb), some wv, some num, none, none, none, none, none, none] ∧ Tp K H wv (wD W) ∧ plainW W = true ∧ Hd K H tb kd Ws n f ∧
  ∀ H' L xs, Ex [] H H' → H' L = some (.lst xs) → TpAll K H' xs ((strsOf ((pW W).drop 1)).map fun c => wvD (f c)) → D.nx [some (.ref tb), some wv, some num, some (.ref L), none, none, none, none, none] H'
/-- what goes out of these boxes -/
def tGone (K : PySem.W.Frag) : TS := fun D σ H => ∃ (tb BL : Addr) (wv num L3 : V) (kd Ws : List Str) (n : Nat) (f : Bq → Wv) (qs : List Str), σ = [some (.ref tb), some wv, some num, some L3, some (.ref BL), none, none, none, none] ∧ H BL = some (.lst (qs.map V.str)) ∧ qs.Nodup ∧ qs.length ≤ 1000 ∧ Hd K H tb kd Ws n f ∧
  ∀ H' G xs, Ex [tb] H H' → Hd K H' tb kd Ws n (fun r => if r ∈ qs then (0, []) else f r) → H' G = some (.lst xs) → TpAll K H' xs (qs.map (prD f)) → D.nx [some (.ref tb), some wv, some num, some L3, some (.ref BL), some (.ref G), none, none, none] H'
/-- it, told -/
def tOut (K : PySem.W.Frag) : TS := fun D σ H => ∃ (z0 z2 z3 z4 : Option V) (G : Addr) (wv : V) (W : Wo) (f : Bq → Wv) (qs : List Str) (xs : List V), σ = [z0, some wv, z2, z3, z4, some (.ref G), none, none, none] ∧ Tp K H wv (wD W) ∧ H G = some (.lst xs) ∧ TpAll K H xs (qs.map (prD f)) ∧ qs.length ≤ 1000 ∧
  ∀ H' t a b ys, H b = none → Ex [] H H' → H' t = some (.tup [.ref a, .ref b]) → H' a = some (.lst []) → H' b = some (.lst ys) → TpAll K H' ys (outD f W qs) → D.rt (.ref t) H'
theorem out_drop {W : Wo} : decide (V.str (kW W) = V.str (Str.ofString "drop")) = isDrop W := by rw [dec_str]; exact (kind_of W).2.2
end
end K10

set_option maxHeartbeats 4000000
namespace K10
open PySem PySem.Spec PyProof.Rows L2 Kk RZ
def dropB : Wo → List Str
  | .drop bs => bs
  | _ => []
/-- the number that goes with a word -/
def numOk : Wo → Int → Prop
  | .number _ n, m => m = n
  | _, _ => True
def emL : List Str := [Str.ofString "wipe", Str.ofString "clear", Str.ofString "drop"]
def isEm : Wo → Bool
  | .wipe _ => true
  | .clear _ => true
  | .drop _ => true
  | _ => false
theorem em_k (W : Wo) : decide (kW W ∈ emL) = isEm W := by
  cases W with
  | take b s => exact (show decide (Str.ofString "take" ∈ emL) = false by decide +kernel)
  | ask b => exact (show decide (Str.ofString "ask" ∈ emL) = false by decide +kernel)
  | number b n => exact (show decide (Str.ofString "number" ∈ emL) = false by decide +kernel)
  | copy b c => exact (show decide (Str.ofString "copy" ∈ emL) = false by decide +kernel)
  | mix b c d => exact (show decide (Str.ofString "mix" ∈ emL) = false by decide +kernel)
  | opn b c => exact (show decide (Str.ofString "open" ∈ emL) = false by decide +kernel)
  | tell b => exact (show decide (Str.ofString "tell" ∈ emL) = false by decide +kernel)
  | wipe b => exact (show decide (Str.ofString "wipe" ∈ emL) = true by decide +kernel)
  | clear x => exact (show decide (Str.ofString "clear" ∈ emL) = true by decide +kernel)
  | drop bs => exact (show decide (Str.ofString "drop" ∈ emL) = true by decide +kernel)
  | risk x => exact (show decide (Str.ofString "risk" ∈ emL) = false by decide +kernel)
  | fault x => exact (show decide (Str.ofString "fault" ∈ emL) = false by decide +kernel)
  | back => exact (show decide (Str.ofString "back" ∈ emL) = false by decide +kernel)
  | call x => exact (show decide (Str.ofString "call" ∈ emL) = false by decide +kernel)
theorem pw_flat {W : Wo} (h : plainW W = true) : ∃ d ds, pW W = d :: ds ∧ ∀ e ∈ ds, (∃ s, e = .str s) ∨ ∃ n, e = .int n := by
  cases W with
  | take b s => exact ⟨_, _, rfl, by simp⟩
  | ask b => exact ⟨_, _, rfl, by simp⟩
  | number b n => exact ⟨_, _, rfl, by simp⟩
  | copy b c => exact ⟨_, _, rfl, by simp⟩
  | mix b c d => exact ⟨_, _, rfl, by simp⟩
  | opn b c => exact ⟨_, _, rfl, by simp⟩
  | tell b => exact ⟨_, _, rfl, by simp⟩
  | wipe b => exact ⟨_, _, rfl, by simp⟩
  | clear x => exact ⟨_, _, rfl, by simp⟩
  | drop bs => exact ⟨_, _, rfl, by simp⟩
  | risk x => cases h
  | fault x => cases h
  | back => cases h
  | call x => cases h
theorem pw_len (W : Wo) : (pW W).length ≤ 3 := by
  cases W <;> simp [pW]
theorem strsOf_snoc (ds : List PyData) (s : Str) : strsOf (ds ++ [.str s]) = strsOf ds ++ [s] := by
  unfold strsOf
  rw [List.filterMap_append]; rfl
theorem strsOf_int (ds : List PyData) (n : Int) : strsOf (ds ++ [.int n]) = strsOf ds := by
  unfold strsOf
  rw [List.filterMap_append, show List.filterMap _ [PyData.int n] = [] from rfl, List.append_nil]
theorem valV_two {x w d : Str} {v1 v2 : V} : valV (mergeK [] [((.inr w : Key), v1), (.inr d, v2)]) (.inr x) = if x = d then some v2 else if x = w then some v1 else none := by
  show valV (putK (putK [] (Sum.inr w : Key) v1) (Sum.inr d : Key) v2) (Sum.inr x : Key) = _
  rw [valV_put, valV_put]
  by_cases e1 : x = d
  · rw [if_pos e1, if_pos (by rw [e1])]
  · rw [if_neg e1, if_neg fun z => e1 (Sum.inr.inj z)]
    by_cases e2 : x = w
    · rw [if_pos e2, if_pos (by rw [e2])]
    · rw [if_neg e2, if_neg fun z => e2 (Sum.inr.inj z)]; rfl
section
variable {P : Program} {w : World} {K : PySem.W.Frag} {mg : Str → Option Value} {base : Heap}
/-- what a word does, as it is due -/
def spDone (K : PySem.W.Frag) : Sp := fun vs H Q _ => ∃ (tb : Addr) (wv : V) (num : Int) (W : Wo) (kd Ws : List Str) (n : Nat) (f : Bq → Wv), vs = [.ref tb, wv, .int num] ∧ Tp K H wv (wD W) ∧ okP kd Ws W ∧ numOk W num ∧ Hd K H tb kd Ws n f ∧ n ≤ 60 ∧ Ws.length ≤ 20 ∧ (∀ q ∈ kd, q.length ≤ 1000) ∧ (∀ b, W = .wipe b → b.length ≤ 1000) ∧
  ∀ H' t a b ys, H b = none → Ex [tb] H H' → Hd K H' tb kd Ws (n + 1) (stF f num W) → H' t = some (.tup [.ref a, .ref b]) → H' a = some (.lst ((tellW f W).map V.int)) → H' b = some (.lst ys) → TpAll K H' ys (outD f W (dropB W)) → Q (.ref t) H'
theorem ok_done {fn : Addr} {fd : FuncData} {k : Nat} (F : Fun K "_law_done" "_law_done" s_done fn fd) (m_isinstance : mg "isinstance" = none) (m_str : mg "str" = none) (m_list : mg "list" = none) (m_len : mg "len" = none) (m_sorted : mg "sorted" = none) (m_tuple : mg "tuple" = none) (m_set : mg "set" = none) :
    FnOk P w K mg base CX0 (k + 1) fn fd ["_law_things", "_law_word", "_law_number"] (spDone K) := by
  refine F.ok sc_done (fun vs H Q E h => ?_) (fun cdv A outer s H vs Q E hr h => ?_)
  · obtain ⟨tb, wv, num, W, kd, Ws, n, f, rfl, _⟩ := h; rfl
  · obtain ⟨tb, wv, num, W, kd, Ws, n, f, rfl, hw, okp, hnum, hD, hn, hWs, hkd, hwl, q⟩ := h
    have hu64 : (A.deeper (envOfC "_law_done" (defScope s_done) s.heap.objs.size fn cdv)).units + 64 < cLine := hr.units
    refine ⟨_, (pss_cons (PS.by (t' := tSome K) (ps_setLc (i := 3) (own := [("_law_box", 7)]) (g := gName 7) rfl sc_done.nd rfl rfl (sw_true rfl rfl rfl (by decide +kernel)) (pi_tup (pe_slice sl_tupA (pv 1) (po_some pe_int) po_none)) (blkOk_by (N := n_done) (sc := defScope s_done) (by decide +kernel)) (fun _ _ _ _ _ => pg_name (i := 7) sc_done.nd rfl (Or.inl rfl)) (fun _ _ _ _ _ => pts_one (pt_val (pe_callB (call_isiB (K := K) rfl) (by rfl) m_isinstance (by decide +kernel) (pa_cons (pv 7) (pa_cons (pe_bltn (v := .ty "str") (by rfl) m_str (by decide +kernel) rfl) pa_nil))))) (fun _ _ _ _ _ => pe_dget2 (hu_of hr) (pv 0) (pv 7) (pe_zero (pe_tup (pa_cons pe_int (pa_cons (pe_tup pa_nil) pa_nil)))) ⟨rfl, rfl, rfl, rfl⟩)) ?g1)
      (pss_cons (ps_if (pt_cmpR op_eq (pe_ix ix_tup (pv 1) pe_int (fun _ _ => rfl)) pe_str (nomark _)) (pss_one (ps_ret (pe_tup (pa_cons (pe_lst (pa_cons (pe_ix ix_tup (pe_dget2 (hu_of hr) (pv 0) (pe_ix ix_tup (pv 1) pe_int (fun _ _ => rfl)) (pe_zero (pe_tup (pa_cons pe_int (pa_cons (pe_tup pa_nil) pa_nil)))) ⟨rfl, rfl, rfl, rfl⟩) pe_int (fun _ _ => rfl)) pa_nil)) (pa_cons (pe_lst pa_nil) pa_nil))))) pss_nil)
      (pss_cons (ps_if (pt_cmpR op_in_seq (pe_ix ix_tup (pv 1) pe_int (fun _ _ => rfl)) (pe_tup (pa_cons pe_str (pa_cons pe_str (pa_cons pe_str pa_nil)))) rfl) (pss_cons (ps_set (i := 4) sc_done.nd rfl (.inl rfl) (pe_dget2 (hu_of hr) (pe_disp (pps_cons pe_str (pe_lst (pa_cons (pe_ix ix_tup (pv 1) pe_int (fun _ _ => rfl)) pa_nil)) (pps_cons pe_str (pe_callTy (CallR.or call_list_of (call_listS rfl)) (by rfl) m_list (by decide +kernel) (pa_cons (pe_ix ix_tup (pv 1) pe_int (fun _ _ => rfl)) pa_nil)) pps_nil)) (by rfl) (by rfl) (fun z => by cases z) (by decide)) (pe_ix ix_tup (pv 1) pe_int (fun _ _ => rfl)) (pe_lst pa_nil) ⟨rfl, rfl, rfl, rfl⟩))
      (pss_cons (ps_if (pt_cmpR op_eq (pe_ix ix_tup (pv 1) pe_int (fun _ _ => rfl)) pe_str (nomark _)) (pss_one (ps_setLc (i := 4) (own := [("_law_box", 7)]) (g := gName 7) rfl sc_done.nd rfl rfl (sw_true rfl rfl rfl (by decide +kernel)) (pi_list (pe_callTy (call_list_dK rfl) (by rfl) m_list (by decide +kernel) (pa_cons (pv 0) pa_nil))) (blkOk_by (N := n_done) (sc := defScope s_done) (by decide +kernel)) (fun _ _ _ _ _ => pg_name (i := 7) sc_done.nd rfl (Or.inl rfl)) (fun _ _ _ _ _ => pts_one (pt_cmpR op_eq (pe_slice sl_str (pv 7) po_none (po_some (pe_op op_add (pe_callB call_len_str (by rfl) m_len PySem.boot_len (pa_cons (pe_ix (ix_tupB (K := K) rfl) (pv 1) pe_int (fun _ _ => rfl)) pa_nil)) pe_int))) (pe_op op_add_str (pe_ix (ix_tupB (K := K) rfl) (pv 1) pe_int (fun _ _ => rfl)) pe_str) (nomark _))) (fun _ _ _ _ _ => (pv 7)))) pss_nil)
      (pss_cons (PS.by (t' := tGone K) (ps_setLc (i := 5) (own := [("_law_box", 7)]) (g := gName 7) (tt := tYes) rfl sc_done.nd rfl rfl (sw_true rfl rfl rfl (by decide +kernel)) (pi_list (pv 4)) (blkOk_by (N := n_done) (sc := defScope s_done) (by decide +kernel)) (fun _ _ _ _ _ => pg_name (i := 7) sc_done.nd rfl (Or.inl rfl)) (fun _ _ _ _ _ => pts_nil) (fun _ _ _ _ _ => (pe_tup (pa_cons (pv 7) (pa_cons (pe_ix (ix_tupB (K := K) rfl) (pe_dpop2 (pv 0) (pv 7) (pe_zero (pe_tup (pa_cons pe_int (pa_cons (pe_tup pa_nil) pa_nil)))) ⟨rfl, rfl, rfl, rfl⟩) pe_int (fun _ _ => rfl)) pa_nil))))) ?g2)
      (pss_one (PS.by (t' := tOut K) (ps_ret (pe_tup (pa_cons (pe_lst pa_nil) (pa_cons (pe_callB (cr_sortDt (K := K) rfl hr.units) (by rfl) m_sorted (by decide +kernel) (pa_cons (pe_lc (own := [("_law_pair", 8)]) (g := gName 8) rfl sc_done.nd (pi_list (pv 5)) (blkOk_by (N := n_done) (sc := defScope s_done) (by decide +kernel)) (fun _ _ _ _ _ => pg_name (i := 8) sc_done.nd rfl (Or.inl rfl)) (fun _ _ _ _ _ => pts_one (PW.pt (pw_and (pt_cmpR op_eq (pe_ix (ix_tupB (K := K) rfl) (pv 1) pe_int (fun _ _ => rfl)) pe_str (nomark _)) (pw_and1 (pt_cmpR (op_neNilT (K := K) rfl hu64) (pe_ix (ix_tupB (K := K) rfl) (pv 8) pe_int (fun _ _ => rfl)) (pe_tup pa_nil) (nomark _)))))) (fun _ _ _ _ _ => (pv 8))) pa_nil)) pa_nil)))) ?g3))))) pss_nil)
      (pss_cons (ps_if (pt_cmpR op_eq (pe_ix ix_tup (pv 1) pe_int (fun _ _ => rfl)) pe_str (nomark _)) (pss_cons (ps_set (i := 6) sc_done.nd rfl (.inl rfl) (pe_callTy call_tuple_of (by rfl) m_tuple (by decide +kernel) (pa_cons (pe_callB (call_sortSetS rfl) (by rfl) m_sorted (by decide +kernel) (pa_cons (pe_callTy (call_setT rfl) (by rfl) m_set (by decide +kernel) (pa_cons (pe_op op_catA (pe_ix ix_tup (pe_ix ix_list (pv 3) pe_int (fun _ _ => rfl)) pe_int (fun _ _ => rfl)) (pe_ix ix_tup (pe_ix ix_list (pv 3) pe_int (fun _ _ => rfl)) pe_int (fun _ _ => rfl))) pa_nil)) pa_nil)) pa_nil)))
      (pss_one (ps_dput (hu_of hr) (pv 0) (pe_ix ix_tup (pv 1) pe_int (fun _ _ => rfl)) (pe_tup (pa_cons (pe_op op_mod (pe_op op_add (pe_op op_add (pe_ix ix_tup (pe_ix ix_list (pv 3) pe_int (fun _ _ => rfl)) pe_int (fun _ _ => rfl)) (pe_ix ix_tup (pe_ix ix_list (pv 3) pe_int (fun _ _ => rfl)) pe_int (fun _ _ => rfl))) (pe_ix ix_tup (pe_ix ix_list (pv 3) pe_int (fun _ _ => rfl)) pe_int (fun _ _ => rfl))) pe_int) (pa_cons (pv 6) pa_nil))) rfl))) (pss_one (ps_if (pt_cmpR op_eq (pe_ix ix_tup (pv 1) pe_int (fun _ _ => rfl)) pe_str (nomark _)) (pss_one (ps_dput (hu_of hr) (pv 0) (pe_ix ix_tup (pv 1) pe_int (fun _ _ => rfl)) (pe_ix ix_list (pv 3) pe_int (fun _ _ => rfl)) rfl)) (pss_one (ps_if (pt_cmpR op_eq (pe_ix ix_tup (pv 1) pe_int (fun _ _ => rfl)) pe_str (nomark _)) (pss_one (ps_dput (hu_of hr) (pv 0) (pe_ix ix_tup (pv 1) pe_int (fun _ _ => rfl)) (pe_tup (pa_cons (pe_op op_mod (pe_ix ix_tup (pe_ix ix_list (pv 3) pe_int (fun _ _ => rfl)) pe_int (fun _ _ => rfl)) pe_int) (pa_cons (pe_tup pa_nil) pa_nil))) rfl)) (pss_one (ps_if (pt_cmpR op_eq (pe_ix ix_tup (pv 1) pe_int (fun _ _ => rfl)) pe_str (nomark _)) (pss_one (ps_dput (hu_of hr) (pv 0) (pe_ix ix_tup (pv 1) pe_int (fun _ _ => rfl)) (pe_tup (pa_cons (pv 2) (pa_cons (pe_tup (pa_cons (pe_ix ix_tup (pv 1) pe_int (fun _ _ => rfl)) pa_nil)) pa_nil))) rfl)) (pss_one (ps_dput (hu_of hr) (pv 0) (pe_ix ix_tup (pv 1) pe_int (fun _ _ => rfl)) (pe_tup (pa_cons (pv 2) (pa_cons (pe_tup pa_nil) pa_nil))) rfl)))))))))
      (pss_one (ps_ret (pe_tup (pa_cons (pe_lst pa_nil) (pa_cons (pe_lst pa_nil) pa_nil))))))))), ?_⟩
    case g1 =>
      rintro D σ H ⟨tb, wv, num, W, kd, Ws, n, f, rfl, hw, pW1, hD, q⟩
      obtain ⟨a, r, rfl, hs, hr1⟩ := word_in hw
      obtain ⟨d0, ds, ep, hflat⟩ := pw_flat pW1
      rw [ep] at hr1 q
      obtain ⟨v0, rs, rfl, hrs⟩ : ∃ v0 rs, r = v0 :: rs ∧ TpAll K H rs ds := by
        cases hr1 with
        | cons h t => exact ⟨_, _, rfl, t⟩
      have lds : ds.length ≤ 100 := by
        have := pw_len W
        rw [ep, List.length_cons] at this
        omega
      refine ⟨.ref a, rfl, 2, rfl, a, _, rfl, hs, fun z => ?_, fun _ B nB => ?_⟩
      · have z1 := z.1
        rw [show (2 : Int) = ((2 : Nat) : Int) from rfl, HT.sIx_nat, List.length_cons, List.length_cons] at z1
        omega
      rw [show (2 : Int) = ((2 : Nat) : Int) from rfl, cut_fr, show (V.str (kW W) :: v0 :: rs).drop 2 = rs from rfl]
      have xB : Ex [] H (upd H B (.tup rs)) := .new nB
      refine ⟨B, rfl, ⟨rs, .of upd_same⟩, fun L nL => ?_⟩
      have xL : Ex [] (upd H B (.tup rs)) (upd (upd H B (.tup rs)) L (.lst [])) := .new nL
      have nL0 : H L = none := xB.f _ nL
      refine lc_tup (a := B) (xs := rs) (fun i H2 => ∃ acc, H2 L = some (.lst acc) ∧ TpAll K H2 acc ((strsOf (ds.take i)).map fun c => wvD (f c)) ∧ acc.length ≤ i ∧ Ex [L] (upd H B (.tup rs)) H2) ?_ ?_ ?_ ?_
      · exact ⟨[], upd_same, by rw [List.take_zero]; exact .nil, Nat.le_refl _, .new nL⟩
      · rintro i H2 _ ⟨_, _, _, _, x2⟩
        exact x2.seqT (.of upd_same)
      · rintro i x H2 hx ⟨acc, hL, ta, la, x2⟩
        obtain ⟨e, he, tx⟩ := hrs.get hx
        have il : i < ds.length := (List.getElem?_eq_some_iff.mp he).1
        have x02 : Ex [L] H H2 := (xB.mono (by simp)).trans x2
        have bL : tb ≠ L := by
          obtain ⟨kvs, k1, _⟩ := id hD
          exact ne_of_none k1 nL0
        rcases hflat e (List.mem_of_getElem? he) with ⟨s, rfl⟩ | ⟨m, rfl⟩
        · cases tx
          have hD2 := hD.ex x02 (by simpa using bL)
          refine ⟨rfl, .str s, rfl, .str s, .ty "str", .type "str", .type "str", true, rfl, .ty "str", .base (.str s), kit_ty (by decide +kernel), _, rfl, iteT ?_⟩
          refine ⟨.ref tb, rfl, tb, rfl, hD2.isD, .str s, rfl, fun Z nZ T nT => ?_⟩
          obtain ⟨xz, tz⟩ := zero_tp (K := K) nZ nT
          obtain ⟨o, ho, to⟩ := (hD2.ex xz (by simp)).get tz s
          have hL3 := xz.lst hL
          refine ⟨o, ho, acc, hL3, by rw [sizeLine_eq]; omega, ?_⟩
          have x4 : Ex [L] (upd (upd H2 Z (.tup [])) T (.tup [.int 0, .ref Z])) (upd (upd (upd H2 Z (.tup [])) T (.tup [.int 0, .ref Z])) L (.lst (acc ++ [o.getD (.ref T)]))) := .put hL3 nt_lst (by simp)
          refine ⟨_, upd_same, ?_, by rw [List.length_append, List.length_singleton]; omega, (x2.trans (xz.mono (by simp))).trans x4⟩
          rw [List.take_add_one, he]
          show TpAll K _ _ ((strsOf (ds.take i ++ [.str s])).map fun c => wvD (f c))
          rw [strsOf_snoc, List.map_append]
          exact (((ta.ex xz).ex x4)).app (.cons (to.ex x4) .nil)
        · cases tx
          refine ⟨rfl, .int m, rfl, .int m, .ty "str", .type "int", .type "str", false, rfl, .ty "str", .base (.int m), kit_ty (by decide +kernel), _, rfl, iteF ?_⟩
          refine ⟨acc, hL, ?_, by omega, x2⟩
          rw [List.take_add_one, he]
          show TpAll K _ _ ((strsOf (ds.take i ++ [.int m])).map fun c => wvD (f c))
          rw [strsOf_int]; exact ta
      · rintro H2 ⟨acc, hL, ta, la, x2⟩
        have lr : rs.length = ds.length := hrs.len
        rw [lr, List.take_length] at ta
        exact q H2 L acc (Ex.own nL0 xB x2) hL ta
    case g2 =>
      rintro D σ H ⟨tb, BL, wv, num, L3, kd, Ws, n, f, qs, rfl, hB, ndq, lq, hD, q⟩
      refine ⟨.ref BL, rfl, BL, rfl, ⟨_, .of hB⟩, fun G nG => ?_⟩
      have tbB : BL ≠ tb := by
        obtain ⟨kvs, k1, _⟩ := id hD
        exact ne_of hB k1 (by intro z; cases z)
      have tbG : tb ≠ G := by
        obtain ⟨kvs, k1, _⟩ := id hD
        exact ne_of_none k1 nG
      have BG : BL ≠ G := ne_of_none hB nG
      refine lc_list (a := BL) (xs := qs.map V.str) (fun i H2 => ∃ acc, H2 G = some (.lst acc) ∧ TpAll K H2 acc ((qs.take i).map (prD f)) ∧ acc.length ≤ i ∧ H2 BL = some (.lst (qs.map V.str)) ∧ Hd K H2 tb kd Ws n (fun r => if r ∈ qs.take i then (0, []) else f r) ∧ Ex [tb, G] H H2) ?_ ?_ ?_ ?_
      · refine ⟨[], upd_same, by rw [List.take_zero]; exact .nil, Nat.le_refl _, by rw [upd_ne BG]; exact hB, ?_, .new nG⟩
        have e : (fun r => if r ∈ qs.take 0 then ((0, []) : Wv) else f r) = f := by
          funext r
          rw [List.take_zero, if_neg (by simp)]
        rw [e]
        exact hD.ex (.new nG (xs := [])) (by simp)
      · rintro i H2 _ ⟨_, _, _, _, h, _⟩
        exact .of h
      · rintro i x H2 hx ⟨acc, hG, ta, la, hB2, hD2, x2⟩
        rw [List.getElem?_map] at hx
        cases hqi : qs[i]? with
        | none => rw [hqi] at hx; cases hx
        | some y =>
          rw [hqi] at hx
          cases hx
          have il : i < qs.length := (List.getElem?_eq_some_iff.mp hqi).1
          have ny : y ∉ qs.take i := fun m => by
            obtain ⟨j, hj, ej⟩ := List.getElem_of_mem m
            rw [List.length_take] at hj
            rw [List.getElem_take] at ej
            have ey : qs[i] = y := (List.getElem?_eq_some_iff.mp hqi).2
            have := (List.getElem_inj ndq).mp (ej.trans ey.symm)
            omega
          have etk : qs.take (i + 1) = qs.take i ++ [y] := by rw [List.take_add_one, hqi]; rfl
          have ef : (fun r => if r ∈ qs.take (i + 1) then ((0, []) : Wv) else f r) = setF (fun r => if r ∈ qs.take i then (0, []) else f r) y (0, []) := by
            funext r
            unfold setF
            rw [etk]
            by_cases er : r = y
            · rw [if_pos er, if_pos (by rw [er]; simp)]
            · rw [if_neg er]
              show (if r ∈ qs.take i ++ [y] then ((0, []) : Wv) else f r) = if r ∈ qs.take i then ((0, []) : Wv) else f r
              by_cases m : r ∈ qs.take i
              · rw [if_pos m, if_pos (List.mem_append_left _ m)]
              · rw [if_neg m, if_neg (by simp [m, er])]
          have fy : (fun r => if r ∈ qs.take i then ((0, []) : Wv) else f r) y = f y := if_neg ny
          refine ⟨rfl, tyes_if ?_⟩
          refine ⟨.str y, rfl, .ref tb, rfl, tb, rfl, hD2.isD, .str y, rfl, fun Z nZ T nT => ?_⟩
          obtain ⟨xz, tz⟩ := zero_tp (K := K) nZ nT
          have hD3 := hD2.ex xz (by simp)
          obtain ⟨kvs, k1, k2, k3, k4, k5, k6, k7⟩ := id hD3
          have hG3 := xz.lst hG
          have hB3 := xz.lst hB2
          have fin : ∀ (H4 : Hp) (u : V), Ex [tb] (upd (upd H2 Z (.tup [])) T (.tup [.int 0, .ref Z])) H4 → Tp K H4 u (wvD (f y)) → Hd K H4 tb kd Ws n (fun r => if r ∈ qs.take (i + 1) then (0, []) else f r) →
              ∃ z1 z2, u = .ref z1 ∧ SqT K H4 z1 [.int (f y).1, .ref z2] ∧ ∀ t, H4 t = none → (upd H4 t (.tup [.str y, .ref z2])) G = some (.lst acc) ∧ acc.length < sizeLine ∧ ∃ acc', (upd (upd H4 t (.tup [.str y, .ref z2])) G (.lst (acc ++ [.ref t]))) G = some (.lst acc') ∧ TpAll K (upd (upd H4 t (.tup [.str y, .ref z2])) G (.lst (acc ++ [.ref t]))) acc' ((qs.take (i + 1)).map (prD f)) ∧ acc'.length ≤ i + 1 ∧ (upd (upd H4 t (.tup [.str y, .ref z2])) G (.lst (acc ++ [.ref t]))) BL = some (.lst (qs.map V.str)) ∧ Hd K (upd (upd H4 t (.tup [.str y, .ref z2])) G (.lst (acc ++ [.ref t]))) tb kd Ws n (fun r => if r ∈ qs.take (i + 1) then (0, []) else f r) ∧ Ex [tb, G] H (upd (upd H4 t (.tup [.str y, .ref z2])) G (.lst (acc ++ [.ref t]))) := fun H4 u x4 tu hD4 => by
            obtain ⟨z1, z2, rfl, h1, h2⟩ := wv_inv tu
            refine ⟨z1, z2, rfl, h1, fun t nt => ?_⟩
            have xt : Ex [] H4 (upd H4 t (.tup [.str y, .ref z2])) := .new nt
            have hG4 := xt.lst (x4.lst hG3 (by simpa using tbG.symm))
            have xg : Ex [G] (upd H4 t (.tup [.str y, .ref z2])) (upd (upd H4 t (.tup [.str y, .ref z2])) G (.lst (acc ++ [.ref t]))) := .put hG4 nt_lst (by simp)
            have xtg := (xt.mono (ys := [G]) (by simp)).trans xg
            refine ⟨hG4, by rw [sizeLine_eq]; omega, _, upd_same, ?_, by rw [List.length_append, List.length_singleton]; omega, xtg.lst (x4.lst hB3 (by simpa using tbB)) (by simpa using BG), hD4.ex xtg (by simpa using tbG), ?_⟩
            · rw [etk, List.map_append]
              refine (((ta.ex xz).ex x4).ex xtg).app (.cons ?_ .nil)
              exact .tup (.of (xg.tup upd_same)) (.cons (.str _) (.cons (.tup (xtg.seqT h2) (TpAll.strs _)) .nil))
            · exact ((x2.trans (xz.mono (by simp))).trans (x4.mono (by simp))).trans (xtg.mono (by simp))
          refine ⟨kvs, qK y, k1, rfl, fun v hv => ?_, fun hv => ?_⟩
          · have x4 : Ex [tb] (upd (upd H2 Z (.tup [])) T (.tup [.int 0, .ref Z])) (upd (upd (upd H2 Z (.tup [])) T (.tup [.int 0, .ref Z])) tb (.dK (dropK kvs (qK y)))) := .put k1 (fun _ z => by cases z) (by simp)
            have tv := (k5 y v hv).ex x4
            rw [fy] at tv
            have hp := Hd.pop (q := y) k1 hD3
            rw [← ef] at hp
            obtain ⟨z1, z2, rfl, h1, hh⟩ := fin _ v x4 tv hp
            refine ⟨z1, _, 1, .ref z2, rfl, rfl, h1, at1, l2, fun t nt => ?_⟩
            obtain ⟨a1, a2, a3⟩ := hh t nt
            exact ⟨acc, a1, a2, a3⟩
          · have f0 := k6 y hv
            have hp : Hd K (upd (upd H2 Z (.tup [])) T (.tup [.int 0, .ref Z])) tb kd Ws n (fun r => if r ∈ qs.take (i + 1) then (0, []) else f r) := by
              rw [ef, setF_zero f0]; exact hD3
            rw [fy] at f0
            have tv := tz
            rw [← f0] at tv
            obtain ⟨z1, z2, e1, h1, hh⟩ := fin _ (.ref T) .refl tv hp
            cases e1
            refine ⟨T, _, 1, .ref z2, rfl, rfl, h1, at1, l2, fun t nt => ?_⟩
            obtain ⟨a1, a2, a3⟩ := hh t nt
            exact ⟨acc, a1, a2, a3⟩
      · rintro H2 ⟨acc, hG, ta, la, hB2, hD2, x2⟩
        rw [List.length_map, List.take_length] at ta hD2
        exact q H2 G acc (Ex.own nG .refl (x2.mono (by simp))) hD2 hG ta
    case g3 =>
      rintro D σ H ⟨z0, z2, z3, z4, G, wv, W, f, qs, xs, rfl, hw, hG, tx, lq, q⟩
      obtain ⟨a, r, rfl, hs, hr1⟩ := word_in hw
      refine ⟨Nat.zero_le _, fun A1 nA => ?_⟩
      have xA : Ex [] H (upd H A1 (.lst [])) := .new nA
      have hG1 := xA.lst hG
      refine ⟨.ref G, rfl, G, rfl, ⟨_, .of hG1⟩, fun L nL => ?_⟩
      have lx : xs.length = qs.length := by have := tx.len; rw [List.length_map] at this; exact this
      have GL : G ≠ L := ne_of_none hG1 nL
      have AL : A1 ≠ L := ne_of_none upd_same nL
      refine lc_list (a := G) (xs := xs) (fun i H2 => ∃ acc, H2 L = some (.lst acc) ∧ TpAll K H2 acc ((if isDrop W = true then (qs.take i).filter (nz f) else []).map (prD f)) ∧ acc.length ≤ i ∧ H2 G = some (.lst xs) ∧ Ex [L] (upd H A1 (.lst [])) H2) ?_ ?_ ?_ ?_
      · refine ⟨[], upd_same, ?_, Nat.le_refl _, by rw [upd_ne GL]; exact hG1, .new nL⟩
        split
        · rw [List.take_zero]; exact .nil
        · exact .nil
      · rintro i H2 _ ⟨_, _, _, _, h, _⟩
        exact .of h
      · rintro i x H2 hx ⟨acc, hL, ta, la, hG2, x2⟩
        obtain ⟨d0, hd0, t0⟩ := tx.get hx
        rw [List.getElem?_map] at hd0
        cases hqi : qs[i]? with
        | none => rw [hqi] at hd0; cases hd0
        | some y =>
          rw [hqi] at hd0
          cases hd0
          have il : i < qs.length := (List.getElem?_eq_some_iff.mp hqi).1
          have x02 : Ex [L] H H2 := (xA.mono (by simp)).trans x2
          have hs2 := x02.seqT hs
          refine ⟨rfl, .ref a, rfl, a, _, 0, _, rfl, rfl, hs2, at0, rfl, _, rfl, ?_⟩
          rw [out_drop]
          cases hd : isDrop W with
          | false =>
            rw [if_neg (by decide)]
            refine iteF ⟨acc, hL, ?_, by omega, hG2, x2⟩
            rw [hd, if_neg (by decide)] at ta
            rw [if_neg (by decide)]; exact ta
          | true =>
            rw [if_pos rfl]
            have t02 := t0.ex x02
            unfold prD at t02
            cases t02 with
            | tup hso hao =>
              rename_i o zs
              cases hao with
              | cons h1 h2 =>
                cases h1
                cases h2 with
                | cons h3 h4 =>
                  cases h4
                  cases h3 with
                  | tup hs3 ha3 =>
                    rename_i wt us
                    rw [strs_inv ha3] at hs3
                    refine ⟨.ref o, rfl, o, _, 1, .ref wt, rfl, rfl, hso, at1, Nat.zero_le _, fun E1 nE => ?_⟩
                    have xE : Ex [] H2 (upd H2 E1 (.tup [])) := .new nE
                    refine ⟨wt, E1, _, rfl, rfl, xE.seqT hs3, .of upd_same, _, rfl, ?_⟩
                    rw [hd, if_pos rfl] at ta
                    have tk : (qs.take (i + 1)).filter (nz f) = (qs.take i).filter (nz f) ++ (if nz f y = true then [y] else []) := by
                      rw [List.take_add_one, hqi, List.filter_append]
                      congr 1
                      show [y].filter (nz f) = _
                      rw [List.filter_cons]
                      split <;> simp [*]
                    rw [if_pos rfl, tk]
                    have en : (!((f y).2.map V.str).isEmpty) = nz f y := by
                      unfold nz
                      cases (f y).2 <;> simp
                    refine ite2 (fun e => ?_) fun e => ?_
                    · rw [en] at e
                      have hL3 := xE.lst hL
                      have x4 : Ex [L] (upd H2 E1 (.tup [])) (upd (upd H2 E1 (.tup [])) L (.lst (acc ++ [.ref o]))) := .put hL3 nt_lst (by simp)
                      refine ⟨.ref o, rfl, acc, hL3, by rw [sizeLine_eq]; omega, _, upd_same, ?_, by rw [List.length_append, List.length_singleton]; omega, x4.lst (xE.lst hG2) (by simpa using GL), (x2.trans (xE.mono (by simp))).trans x4⟩
                      rw [if_pos e, List.map_append]
                      refine (((ta.ex xE).ex x4)).app (.cons ?_ .nil)
                      exact ((t0.ex x02).ex xE).ex x4
                    · rw [en] at e
                      rw [if_neg e, List.append_nil]
                      exact ⟨acc, xE.lst hL, ta.ex xE, by omega, xE.lst hG2, x2.trans (xE.mono (by simp))⟩
      · rintro H2 ⟨acc, hL, ta, la, hG2, x2⟩
        rw [lx, List.take_length] at ta
        have nL0 : H L = none := xA.f _ nL
        have x02 : Ex [] H H2 := Ex.own nL0 xA x2
        refine ⟨L, acc, (if isDrop W = true then qs.filter (nz f) else []), prD f, rfl, .of hL, ta, pr_alike f, fun b => ⟨_, _, rfl⟩, pr_depth f, fun ys p np tys => ⟨l2, fun t nt => ?_⟩⟩
        have xp : Ex [] H2 (upd H2 p (.lst ys)) := .new np
        have xt : Ex [] (upd H2 p (.lst ys)) (upd (upd H2 p (.lst ys)) t (.tup [.ref A1, .ref p])) := .new nt
        refine q _ t A1 p ys (x02.f _ np) ((x02.trans xp).trans xt) upd_same (xt.lst (xp.lst (x2.lst upd_same (by simpa using AL)))) (xt.lst upd_same) ?_
        rw [merge_srt (enc := prD f) (r := fun q => [.tuple ((f q).2.map .str)]) (fun q => rfl)] at tys
        unfold outD
        cases hd : isDrop W with
        | false =>
          rw [hd, if_neg (by decide)] at tys
          rw [if_neg (by decide)]
          have e0 : srtS [] = [] := srtS_eq (List.Perm.refl _) rfl
          rw [e0] at tys
          exact tys.ex xt
        | true =>
          rw [hd, if_pos rfl] at tys
          rw [if_pos rfl]
          exact tys.ex xt
    obtain ⟨a, r, rfl, hs0, hr1⟩ := word_in hw
    obtain ⟨pW1, oW1, nW1⟩ := okp
    refine ⟨tb, .ref a, .int num, W, kd, Ws, n, f, rfl, hw, pW1, hD, fun H1 L xs1 x1 hL1 t1 => ?_⟩
    have hs := x1.seqT hs0
    have hD1 := hD.ex x1 (by simp)
    have hw1 := hw.ex x1
    -- a word that puts: what is left of it
    have putw : ∀ (H2 : Hp) (v : V) (kvs : List (Key × V)) (b : Str), Ex [] H1 H2 → isPut W = true → boxW W = b → H2 tb = some (.dK kvs) → Tp K H2 v (wvD (valW f num W)) → ∀ t a1 b1, (upd H2 tb (.dK (putK kvs (qK b) v))) a1 = none → (upd (upd H2 tb (.dK (putK kvs (qK b) v))) a1 (.lst [])) b1 = none → (upd (upd (upd H2 tb (.dK (putK kvs (qK b) v))) a1 (.lst [])) b1 (.lst [])) t = none →
        Q (.ref t) (upd (upd (upd (upd H2 tb (.dK (putK kvs (qK b) v))) a1 (.lst [])) b1 (.lst [])) t (.tup [.ref a1, .ref b1])) := fun H2 v kvs b x2 hp hb hk tv t a1 b1 na nb nt => by
      have hD2 := hD1.ex x2 (by simp)
      obtain ⟨kvs', k1, k2, k3, k4, k5, k6, k7⟩ := id hD2
      rw [hk] at k1
      cases k1
      have vok : (valW f num W).2.Nodup ∧ ∀ s ∈ (valW f num W).2, s ∈ Ws := by
        cases W with
        | take b s => exact ⟨by simp [valW], fun s' m => by rw [List.mem_singleton.mp m]; exact oW1.2⟩
        | ask b => exact ⟨by simp [valW], fun s' m => by cases m⟩
        | number b n => exact ⟨by simp [valW], fun s' m => by cases m⟩
        | copy b c => exact k7 c
        | opn b c => exact ⟨by simp [valW], fun s' m => by cases m⟩
        | mix b c d =>
          refine SU.ok (fun s' m => ?_) (su_ex _)
          rcases List.mem_append.mp m with m | m
          · exact (k7 c).2 s' m
          · exact (k7 d).2 s' m
        | tell b => cases hp
        | wipe b => cases hp
        | clear b => cases hp
        | drop b => cases hp
        | risk b => cases hp
        | fault b => cases hp
        | back => cases hp
        | call b => cases hp
      have hb1 := oW1.box hp
      rw [hb] at hb1
      have hD3 := Hd.put hk k2 k3 k4 k5 k6 k7 hb1 tv vok
      have x3 : Ex [tb] H2 (upd H2 tb (.dK (putK kvs (qK b) v))) := .put hk (fun _ z => by cases z) (by simp)
      generalize upd H2 tb (.dK (putK kvs (qK b) v)) = H3 at x3 hD3 na nb nt
      have xa : Ex [] H3 (upd H3 a1 (.lst [])) := .new na
      have xb : Ex [] (upd H3 a1 (.lst [])) (upd (upd H3 a1 (.lst [])) b1 (.lst [])) := .new nb
      have xt : Ex [] (upd (upd H3 a1 (.lst [])) b1 (.lst [])) (upd (upd (upd H3 a1 (.lst [])) b1 (.lst [])) t (.tup [.ref a1, .ref b1])) := .new nt
      have xx := (xa.trans xb).trans xt
      have e1 : tellW f W = [] := by cases W <;> first | rfl | cases hp
      have e2 : isDrop W = false := by cases W <;> first | rfl | cases hp
      refine q _ t a1 b1 [] (x1.f _ (x2.f _ (x3.f _ (xa.f _ nb)))) (((x1.trans x2).mono (by simp)).trans (x3.trans (xx.mono (by simp)))) ?_ upd_same ?_ (xt.lst upd_same) ?_
      · unfold stF
        rw [if_pos hp, hb]
        exact hD3.ex xx (by simp)
      · rw [e1]; exact xt.lst (xb.lst upd_same)
      · unfold outD
        rw [e2, if_neg (by decide)]; exact .nil
    -- a word that empties: by what is emptied
    have emw : ∀ (H2 : Hp) (qs : List Str) (H3 : Hp) (t a1 b1 : Addr) (ys : List V), H2 b1 = none → Ex [] H1 H2 → isEm W = true → (∀ r, (if r ∈ qs then ((0, []) : Wv) else f r) = emF f W r) → Ex [tb] H2 H3 → Hd K H3 tb kd Ws n (fun r => if r ∈ qs then (0, []) else f r) → H3 t = some (.tup [.ref a1, .ref b1]) → H3 a1 = some (.lst []) → H3 b1 = some (.lst ys) → TpAll K H3 ys (outD f W qs) → (isDrop W = true → qs = dropB W) → Q (.ref t) H3 := fun H2 qs H3 t a1 b1 ys nb0 x2 he hf x3 hD3 ht ha hb ty hq => by
      have e0 : isPut W = false := by cases W <;> first | rfl | cases he
      have e1 : tellW f W = [] := by cases W <;> first | rfl | cases he
      refine q H3 t a1 b1 ys (x1.f _ (x2.f _ nb0)) (((x1.trans x2).mono (by simp)).trans x3) ?_ ht (by rw [e1]; exact ha) hb ?_
      · unfold stF
        rw [e0, if_neg (by decide)]
        have : (fun r => if r ∈ qs then ((0, []) : Wv) else f r) = emF f W := funext hf
        rw [← this]
        exact hD3.mono (by omega)
      · cases hd : isDrop W with
        | true => rw [← hq hd]; exact ty
        | false =>
          unfold outD at ty ⊢
          rw [hd, if_neg (by decide)] at ty ⊢
          exact ty
    have in3 : ∀ {A B : Prop} {H2 : Hp}, (isEm W = true → A) → (isEm W = false → B) → if inV (V.str (kW W)) (emL.map V.str) = true then A else B := fun h g => by
      rw [inV_strs, em_k]
      cases hh : isEm W with
      | true => rw [if_pos rfl]; exact h hh
      | false => rw [if_neg (by decide)]; exact g hh
    refine ⟨.ref a, rfl, a, _, 0, _, rfl, rfl, hs, at0, rfl, _, rfl, ?_⟩
    by_cases ct : isTell W = true
    · cases W <;> try cases ct
      rename_i b
      obtain ⟨r2, rfl, _⟩ := one_s hr1
      refine sY ⟨.ref tb, rfl, tb, rfl, hD1.isD, .ref a, rfl, a, _, 1, .str b, rfl, rfl, hs, at1, fun Z nZ T nT => ?_⟩
      obtain ⟨xz, tz⟩ := zero_tp (K := K) nZ nT
      obtain ⟨o, ho, to⟩ := (hD1.ex xz (by simp)).get tz b
      obtain ⟨z1, z2, e1, h1, h2⟩ := wv_inv to
      refine ⟨o, ho, z1, _, 0, .int (f b).1, e1, rfl, h1, at0, l1, fun a1 na => ⟨l0, fun b1 nb => ⟨l2, fun t nt => ?_⟩⟩⟩
      generalize upd (upd H1 Z (.tup [])) T (.tup [.int 0, .ref Z]) = H2 at xz na nb nt
      have xa : Ex [] H2 (upd H2 a1 (.lst [.int (f b).1])) := .new na
      have xb : Ex [] (upd H2 a1 (.lst [.int (f b).1])) (upd (upd H2 a1 (.lst [.int (f b).1])) b1 (.lst [])) := .new nb
      have xt : Ex [] (upd (upd H2 a1 (.lst [.int (f b).1])) b1 (.lst [])) (upd (upd (upd H2 a1 (.lst [.int (f b).1])) b1 (.lst [])) t (.tup [.ref a1, .ref b1])) := .new nt
      have xx := (xa.trans xb).trans xt
      refine q _ t a1 b1 [] (x1.f _ (xz.f _ (xa.f _ nb))) (((x1.trans xz).trans xx).mono (by simp)) ?_ upd_same (xt.lst (xb.lst upd_same)) (xt.lst upd_same) .nil
      have e : stF f num (.tell b) = f := by
        funext r
        unfold stF emF
        rw [if_neg (show ¬ isPut (.tell b) = true from fun z => by cases z), if_neg (show ¬ emW (.tell b) r = true from fun z => by cases z)]
      rw [e]
      exact ((hD1.ex xz (by simp)).ex xx (by simp)).mono (by omega)
    have nt0 : ¬ kW W = Str.ofString "tell" := fun z => ct (by rw [← (kind_of W).2.1]; exact decide_eq_true z)
    refine sN nt0 ⟨.ref a, rfl, a, _, 0, _, rfl, rfl, hs, at0, l3, fun T3 nT3 => ⟨T3, emL.map V.str, rfl, .inr (.of upd_same), rfl, strs_flat _, _, rfl, in3 (H2 := H1) (fun he => ?_) fun he => ?_⟩⟩
    · have xT : Ex [] H1 (upd H1 T3 (.tup [.str (Str.ofString "wipe"), .str (Str.ofString "clear"), .str (Str.ofString "drop")])) := .new nT3
      have hsT := xT.seqT hs
      -- the boxes, by its first part
      have hDT := hD1.ex xT (by simp)
      generalize upd H1 T3 (.tup [.str (Str.ofString "wipe"), .str (Str.ofString "clear"), .str (Str.ofString "drop")]) = HT at xT hsT hDT ⊢
      have close : ∀ (De : Ends) (H2 : Hp) (BL : Addr) (qs : List Str), De.rt = Q → Ex [] HT H2 → H2 BL = some (.lst (qs.map V.str)) → qs.Nodup → qs.length ≤ 1000 → (∀ r, (if r ∈ qs then ((0, []) : Wv) else f r) = emF f W r) → (isDrop W = true → qs = dropB W) →
          tSeq (tGone K) (tOut K) De [some (V.ref tb), some (.ref a), some (.int num), some (.ref L), some (.ref BL), none, none, none, none] H2 := fun De H2 BL qs eD x2 hB nd lq hf hq => by
        refine ⟨tb, BL, .ref a, .int num, .ref L, kd, Ws, n, f, qs, rfl, hB, nd, lq, hDT.ex x2 (by simp), fun H' G xs x' hD2 hG tG => ?_⟩
        refine ⟨_, _, _, _, G, .ref a, W, f, qs, xs, rfl, ((hw1.ex xT).ex x2).ex x', hG, tG, lq, fun H'' t a1 b1 ys n1 x'' h1 h2 h3 h4 => ?_⟩
        rw [eD]
        exact emw H2 qs H'' t a1 b1 ys (x'.f _ n1) (xT.trans x2) he hf (x'.trans (x''.mono (by simp))) (hD2.ex x'' (by simp)) h1 h2 h3 h4 hq
      have hkb : ∀ b, W = .wipe b → b.length ≤ 1000 := hwl
      cases W <;> try cases he
      · rename_i b
        obtain ⟨r2, rfl, _⟩ := one_s hr1
        refine fun p np => ?_
        have xp : Ex [] HT (upd HT p (.dK [])) := .new np
        have hs1 := xp.seqT hsT
        refine ⟨.ref a, rfl, a, _, 1, (.str b), rfl, rfl, hs1, at1, l1, fun WL nWL => ?_⟩
        have xW : Ex [] (upd HT p (.dK [])) (upd (upd HT p (.dK [])) WL (.lst [(.str b)])) := .new nWL
        have hs2 := xW.seqT hs1
        have pW2 : p ≠ WL := ne_of_none upd_same nWL
        refine ⟨.ref a, rfl, a, _, 1, .str b, rfl, rfl, hs2, at1, .inr ⟨b, rfl, ?_, fun DL cs nDL => ?_⟩⟩
        · exact Nat.le_trans (hkb b rfl) (by decide)
        have xD : Ex [] (upd (upd HT p (.dK [])) WL (.lst [(.str b)])) (upd (upd (upd HT p (.dK [])) WL (.lst [(.str b)])) DL (.lst cs)) := .new nDL
        have hs3 := xD.seqT hs2
        have pD : p ≠ DL := ne_of_none (show (upd (upd HT p (.dK [])) WL (.lst [(.str b)])) p = some (.dK []) by rw [upd_ne pW2, upd_same]) nDL
        have hp3 : (upd (upd (upd HT p (.dK [])) WL (.lst [(.str b)])) DL (.lst cs)) p = some (.dK []) := by rw [upd_ne pD, upd_ne pW2, upd_same]
        have hWL : (upd (upd (upd HT p (.dK [])) WL (.lst [(.str b)])) DL (.lst cs)) WL = some (.lst [(.str b)]) := xD.lst upd_same
        have hDL : (upd (upd (upd HT p (.dK [])) WL (.lst [(.str b)])) DL (.lst cs)) DL = some (.lst cs) := upd_same
        have xHD := (xp.trans xW).trans xD
        have np3 : HT p = none := np
        generalize upd (upd (upd HT p (.dK [])) WL (.lst [(.str b)])) DL (.lst cs) = H3 at xD hs3 hp3 hWL hDL xHD
        refine ⟨hp3, [(Sum.inr (Str.ofString "wipe"), .ref WL), (Sum.inr (Str.ofString "drop"), .ref DL)], rfl, (by show 2 ≤ 15; decide), p, rfl, .inl ⟨_, .inl upd_same⟩, ?_⟩
        have x4 : Ex [] HT (upd H3 p (.dK (mergeK [] [(Sum.inr (Str.ofString "wipe"), .ref WL), (Sum.inr (Str.ofString "drop"), .ref DL)]))) := Ex.own np3 xHD (.put hp3 (fun _ z => by cases z) (by simp))
        have hp4 : (upd H3 p (.dK (mergeK [] [(Sum.inr (Str.ofString "wipe"), .ref WL), (Sum.inr (Str.ofString "drop"), .ref DL)]))) p = some (.dK (mergeK [] [(Sum.inr (Str.ofString "wipe"), .ref WL), (Sum.inr (Str.ofString "drop"), .ref DL)])) := upd_same
        have hWL4 : (upd H3 p (.dK (mergeK [] [(Sum.inr (Str.ofString "wipe"), .ref WL), (Sum.inr (Str.ofString "drop"), .ref DL)]))) WL = some (.lst [(.str b)]) := by rw [upd_ne pW2.symm]; exact hWL
        have hDL4 : (upd H3 p (.dK (mergeK [] [(Sum.inr (Str.ofString "wipe"), .ref WL), (Sum.inr (Str.ofString "drop"), .ref DL)]))) DL = some (.lst cs) := by rw [upd_ne pD.symm]; exact hDL
        generalize upd H3 p (.dK (mergeK [] [(Sum.inr (Str.ofString "wipe"), .ref WL), (Sum.inr (Str.ofString "drop"), .ref DL)])) = H4 at x4 hp4 hWL4 hDL4
        have hs4 := x4.seqT hsT
        refine ⟨.ref a, rfl, a, _, 0, _, rfl, rfl, hs4, at0, l0, fun EL nEL => ?_⟩
        have xE : Ex [] H4 (upd H4 EL (.lst [])) := .new nEL
        have hs5 := xE.seqT hs4
        have x45 := x4.trans xE
        refine ⟨_, DGet.k (k := Sum.inr _) (xE.a p _ (by simp) hp4 (fun _ z => by cases z)), ?_⟩
        rw [valV_two]
        rw [if_neg (show ¬ kW (.wipe b) = Str.ofString "drop" from (by decide +kernel : ¬ Str.ofString "wipe" = Str.ofString "drop")), if_pos (show kW (.wipe b) = Str.ofString "wipe" from rfl)]
        refine ⟨.ref a, rfl, a, _, 0, _, rfl, rfl, hs5, at0, rfl, _, rfl, sN (show ¬ Str.ofString "wipe" = Str.ofString "clear" by decide +kernel) ?_⟩
        refine close _ _ WL [b] rfl x45 (xE.lst hWL4) (by simp) (by simp) (fun r => ?_) (fun z => by cases z)
        unfold emF
        show _ = if decide (r = b) = true then _ else _
        by_cases e : r = b
        · rw [if_pos (by rw [e]; simp), if_pos (decide_eq_true e)]
        · rw [if_neg (by simp [e]), if_neg (by simp [e])]
      · rename_i x
        obtain ⟨r2, rfl, _⟩ := one_s hr1
        have lx : x.length ≤ 1000 := oW1
        refine fun p np => ?_
        have xp : Ex [] HT (upd HT p (.dK [])) := .new np
        have hs1 := xp.seqT hsT
        refine ⟨.ref a, rfl, a, _, 1, (.str x), rfl, rfl, hs1, at1, l1, fun WL nWL => ?_⟩
        have xW : Ex [] (upd HT p (.dK [])) (upd (upd HT p (.dK [])) WL (.lst [(.str x)])) := .new nWL
        have hs2 := xW.seqT hs1
        have pW2 : p ≠ WL := ne_of_none upd_same nWL
        refine ⟨.ref a, rfl, a, _, 1, .str x, rfl, rfl, hs2, at1, .inr ⟨x, rfl, ?_, fun DL cs nDL => ?_⟩⟩
        · exact Nat.le_trans lx (by decide)
        have xD : Ex [] (upd (upd HT p (.dK [])) WL (.lst [(.str x)])) (upd (upd (upd HT p (.dK [])) WL (.lst [(.str x)])) DL (.lst cs)) := .new nDL
        have hs3 := xD.seqT hs2
        have pD : p ≠ DL := ne_of_none (show (upd (upd HT p (.dK [])) WL (.lst [(.str x)])) p = some (.dK []) by rw [upd_ne pW2, upd_same]) nDL
        have hp3 : (upd (upd (upd HT p (.dK [])) WL (.lst [(.str x)])) DL (.lst cs)) p = some (.dK []) := by rw [upd_ne pD, upd_ne pW2, upd_same]
        have hWL : (upd (upd (upd HT p (.dK [])) WL (.lst [(.str x)])) DL (.lst cs)) WL = some (.lst [(.str x)]) := xD.lst upd_same
        have hDL : (upd (upd (upd HT p (.dK [])) WL (.lst [(.str x)])) DL (.lst cs)) DL = some (.lst cs) := upd_same
        have xHD := (xp.trans xW).trans xD
        have np3 : HT p = none := np
        generalize upd (upd (upd HT p (.dK [])) WL (.lst [(.str x)])) DL (.lst cs) = H3 at xD hs3 hp3 hWL hDL xHD
        refine ⟨hp3, [(Sum.inr (Str.ofString "wipe"), .ref WL), (Sum.inr (Str.ofString "drop"), .ref DL)], rfl, (by show 2 ≤ 15; decide), p, rfl, .inl ⟨_, .inl upd_same⟩, ?_⟩
        have x4 : Ex [] HT (upd H3 p (.dK (mergeK [] [(Sum.inr (Str.ofString "wipe"), .ref WL), (Sum.inr (Str.ofString "drop"), .ref DL)]))) := Ex.own np3 xHD (.put hp3 (fun _ z => by cases z) (by simp))
        have hp4 : (upd H3 p (.dK (mergeK [] [(Sum.inr (Str.ofString "wipe"), .ref WL), (Sum.inr (Str.ofString "drop"), .ref DL)]))) p = some (.dK (mergeK [] [(Sum.inr (Str.ofString "wipe"), .ref WL), (Sum.inr (Str.ofString "drop"), .ref DL)])) := upd_same
        have hWL4 : (upd H3 p (.dK (mergeK [] [(Sum.inr (Str.ofString "wipe"), .ref WL), (Sum.inr (Str.ofString "drop"), .ref DL)]))) WL = some (.lst [(.str x)]) := by rw [upd_ne pW2.symm]; exact hWL
        have hDL4 : (upd H3 p (.dK (mergeK [] [(Sum.inr (Str.ofString "wipe"), .ref WL), (Sum.inr (Str.ofString "drop"), .ref DL)]))) DL = some (.lst cs) := by rw [upd_ne pD.symm]; exact hDL
        generalize upd H3 p (.dK (mergeK [] [(Sum.inr (Str.ofString "wipe"), .ref WL), (Sum.inr (Str.ofString "drop"), .ref DL)])) = H4 at x4 hp4 hWL4 hDL4
        have hs4 := x4.seqT hsT
        refine ⟨.ref a, rfl, a, _, 0, _, rfl, rfl, hs4, at0, l0, fun EL nEL => ?_⟩
        have xE : Ex [] H4 (upd H4 EL (.lst [])) := .new nEL
        have hs5 := xE.seqT hs4
        have x45 := x4.trans xE
        refine ⟨_, DGet.k (k := Sum.inr _) (xE.a p _ (by simp) hp4 (fun _ z => by cases z)), ?_⟩
        rw [valV_two]
        rw [if_neg (show ¬ kW (.clear x) = Str.ofString "drop" from (by decide +kernel : ¬ Str.ofString "clear" = Str.ofString "drop")), if_neg (show ¬ kW (.clear x) = Str.ofString "wipe" from (by decide +kernel : ¬ Str.ofString "clear" = Str.ofString "wipe"))]
        refine ⟨.ref a, rfl, a, _, 0, _, rfl, rfl, hs5, at0, rfl, _, rfl, sY ?_⟩
        have hD5 := hDT.ex x45 (by simp)
        obtain ⟨kvs, k1, k2, k3, k4, k5, k6, k7⟩ := id hD5
        obtain ⟨bqs, eb, ev, hbk⟩ := keys_str k4
        have lb : bqs.length ≤ n := by
          have := congrArg List.length eb
          rw [List.length_map, List.length_map] at this
          omega
        have ndb : bqs.Nodup := by
          rw [eb] at k3
          exact List.Pairwise.of_map qK (fun a b h e => h (by rw [e])) k3
        refine ⟨.ref tb, rfl, tb, kvs, rfl, k1, fun KL nKL => ?_⟩
        rw [ev]
        have xK : Ex [] (upd H4 EL (.lst [])) (upd (upd H4 EL (.lst [])) KL (.lst (bqs.map V.str))) := .new nKL
        have hKL : (upd (upd H4 EL (.lst [])) KL (.lst (bqs.map V.str))) KL = some (.lst (bqs.map V.str)) := upd_same
        generalize upd (upd H4 EL (.lst [])) KL (.lst (bqs.map V.str)) = H6 at xK hKL
        refine ⟨KL, rfl, ⟨_, .of hKL⟩, fun CL nCL => ?_⟩
        have KC : KL ≠ CL := ne_of_none hKL nCL
        have hs6 := xK.seqT hs5
        refine lc_list (a := KL) (xs := bqs.map V.str) (fun i H7 => H7 CL = some (.lst (((bqs.take i).filter (emW (.clear x))).map V.str)) ∧ H7 KL = some (.lst (bqs.map V.str)) ∧ Ex [CL] H6 H7) ?_ ?_ ?_ ?_
        · exact ⟨by rw [upd_same, List.take_zero]; rfl, by rw [upd_ne KC]; exact hKL, .new nCL⟩
        · rintro i H7 _ ⟨_, h, _⟩
          exact .of h
        · rintro i v H7 hv ⟨hC7, hK7, x7⟩
          rw [List.getElem?_map] at hv
          cases hbi : bqs[i]? with
          | none => rw [hbi] at hv; cases hv
          | some bq =>
            rw [hbi] at hv
            cases hv
            have il : i < bqs.length := (List.getElem?_eq_some_iff.mp hbi).1
            have hs7 := x7.seqT hs6
            have lbq : bq.length ≤ 1000 := hkd bq (hbk bq (List.mem_of_getElem? hbi))
            have tk : (bqs.take (i + 1)).filter (emW (.clear x)) = (bqs.take i).filter (emW (.clear x)) ++ (if emW (.clear x) bq = true then [bq] else []) := by
              rw [List.take_add_one, hbi, List.filter_append]
              congr 1
              show [bq].filter _ = _
              rw [List.filter_cons]
              split <;> simp [*]
            refine ⟨rfl, .str bq, rfl, .ref a, rfl, a, _, 1, .str x, rfl, rfl, hs7, at1, x, rfl, Nat.le_trans lx (by decide), _, 1, rfl, rfl, (x.length : Int) + 1, rfl, bq, rfl, Nat.le_trans lbq (by decide), .ref a, rfl, a, _, 1, .str x, rfl, rfl, hs7, at1, x, dotS, rfl, rfl, ?_, rfl, _, rfl, ?_⟩
            · rw [show dotS.length = 1 by decide +kernel]; exact Nat.le_trans (Nat.add_le_add_right lx 1) (by decide)
            rw [starts_cut]
            show if emW (.clear x) bq = true then _ else _
            refine ite2 (fun e => ?_) fun e => ?_
            · refine ⟨.str bq, rfl, _, hC7, ?_, ?_, ?_, ?_⟩
              · rw [List.length_map, sizeLine_eq]
                have := List.length_filter_le (emW (.clear x)) (bqs.take i)
                rw [List.length_take] at this
                omega
              · rw [upd_same, tk, if_pos e, List.map_append]; rfl
              · rw [upd_ne KC]; exact hK7
              · exact x7.trans (.put hC7 nt_lst (by simp))
            · rw [tk, if_neg e, List.append_nil]
              exact ⟨hC7, hK7, x7⟩
        · rintro H7 ⟨hC7, hK7, x7⟩
          rw [List.length_map, List.take_length] at hC7
          have nC0 : HT CL = none := x45.f _ (xK.f _ nCL)
          have x07 : Ex [] HT H7 := Ex.own nC0 (x45.trans xK) x7
          refine close _ H7 CL (bqs.filter (emW (.clear x))) rfl x07 hC7 (ndb.filter _) ?_ (fun r => ?_) (fun z => by cases z)
          · have := List.length_filter_le (emW (.clear x)) bqs
            omega
          · unfold emF
            by_cases e : emW (.clear x) r = true
            · rw [if_pos e]
              by_cases m : r ∈ bqs
              · rw [if_pos (List.mem_filter.mpr ⟨m, e⟩)]
              · rw [if_neg fun z => m (List.mem_filter.mp z).1]
                refine k6 r ?_
                unfold valV
                have : kvs.find? (fun kv => decide (kv.1 = qK r)) = none := by
                  rw [List.find?_eq_none]
                  intro p hp z
                  have mk : qK r ∈ kvs.map (·.1) := List.mem_map.mpr ⟨p, hp, of_decide_eq_true z⟩
                  rw [eb] at mk
                  obtain ⟨r', h1, h2⟩ := List.mem_map.mp mk
                  exact m (by rw [← qK_inj h2]; exact h1)
                rw [this]; rfl
            · rw [if_neg e, if_neg fun z => e (List.mem_filter.mp z).2]
      · rename_i bs
        have lbs : bs.length < 64 := oW1
        obtain ⟨c, r2, rfl, hc⟩ : ∃ c r2, r = .ref c :: r2 ∧ SqT K H c (bs.map V.str) := by
          cases hr1 with
          | cons h1 h2 =>
            cases h1 with
            | tup hs2 ha2 =>
              rw [strs_inv ha2] at hs2
              exact ⟨_, _, rfl, hs2⟩
        refine fun p np => ?_
        have xp : Ex [] HT (upd HT p (.dK [])) := .new np
        have hs1 := xp.seqT hsT
        refine ⟨.ref a, rfl, a, _, 1, (.ref c), rfl, rfl, hs1, at1, l1, fun WL nWL => ?_⟩
        have xW : Ex [] (upd HT p (.dK [])) (upd (upd HT p (.dK [])) WL (.lst [(.ref c)])) := .new nWL
        have hs2 := xW.seqT hs1
        have pW2 : p ≠ WL := ne_of_none upd_same nWL
        have hc2 := xW.seqT (xp.seqT (xT.seqT (x1.seqT hc)))
        refine ⟨.ref a, rfl, a, _, 1, .ref c, rfl, rfl, hs2, at1, .inl ⟨c, _, rfl, .inr hc2, fun DL nDL => ?_⟩⟩
        have xD : Ex [] (upd (upd HT p (.dK [])) WL (.lst [(.ref c)])) (upd (upd (upd HT p (.dK [])) WL (.lst [(.ref c)])) DL (.lst (bs.map V.str))) := .new nDL
        have hs3 := xD.seqT hs2
        have pD : p ≠ DL := ne_of_none (show (upd (upd HT p (.dK [])) WL (.lst [(.ref c)])) p = some (.dK []) by rw [upd_ne pW2, upd_same]) nDL
        have hp3 : (upd (upd (upd HT p (.dK [])) WL (.lst [(.ref c)])) DL (.lst (bs.map V.str))) p = some (.dK []) := by rw [upd_ne pD, upd_ne pW2, upd_same]
        have hWL : (upd (upd (upd HT p (.dK [])) WL (.lst [(.ref c)])) DL (.lst (bs.map V.str))) WL = some (.lst [(.ref c)]) := xD.lst upd_same
        have hDL : (upd (upd (upd HT p (.dK [])) WL (.lst [(.ref c)])) DL (.lst (bs.map V.str))) DL = some (.lst (bs.map V.str)) := upd_same
        have xHD := (xp.trans xW).trans xD
        have np3 : HT p = none := np
        generalize upd (upd (upd HT p (.dK [])) WL (.lst [(.ref c)])) DL (.lst (bs.map V.str)) = H3 at xD hs3 hp3 hWL hDL xHD
        refine ⟨hp3, [(Sum.inr (Str.ofString "wipe"), .ref WL), (Sum.inr (Str.ofString "drop"), .ref DL)], rfl, (by show 2 ≤ 15; decide), p, rfl, .inl ⟨_, .inl upd_same⟩, ?_⟩
        have x4 : Ex [] HT (upd H3 p (.dK (mergeK [] [(Sum.inr (Str.ofString "wipe"), .ref WL), (Sum.inr (Str.ofString "drop"), .ref DL)]))) := Ex.own np3 xHD (.put hp3 (fun _ z => by cases z) (by simp))
        have hp4 : (upd H3 p (.dK (mergeK [] [(Sum.inr (Str.ofString "wipe"), .ref WL), (Sum.inr (Str.ofString "drop"), .ref DL)]))) p = some (.dK (mergeK [] [(Sum.inr (Str.ofString "wipe"), .ref WL), (Sum.inr (Str.ofString "drop"), .ref DL)])) := upd_same
        have hWL4 : (upd H3 p (.dK (mergeK [] [(Sum.inr (Str.ofString "wipe"), .ref WL), (Sum.inr (Str.ofString "drop"), .ref DL)]))) WL = some (.lst [(.ref c)]) := by rw [upd_ne pW2.symm]; exact hWL
        have hDL4 : (upd H3 p (.dK (mergeK [] [(Sum.inr (Str.ofString "wipe"), .ref WL), (Sum.inr (Str.ofString "drop"), .ref DL)]))) DL = some (.lst (bs.map V.str)) := by rw [upd_ne pD.symm]; exact hDL
        generalize upd H3 p (.dK (mergeK [] [(Sum.inr (Str.ofString "wipe"), .ref WL), (Sum.inr (Str.ofString "drop"), .ref DL)])) = H4 at x4 hp4 hWL4 hDL4
        have hs4 := x4.seqT hsT
        refine ⟨.ref a, rfl, a, _, 0, _, rfl, rfl, hs4, at0, l0, fun EL nEL => ?_⟩
        have xE : Ex [] H4 (upd H4 EL (.lst [])) := .new nEL
        have hs5 := xE.seqT hs4
        have x45 := x4.trans xE
        refine ⟨_, DGet.k (k := Sum.inr _) (xE.a p _ (by simp) hp4 (fun _ z => by cases z)), ?_⟩
        rw [valV_two]
        rw [if_pos (show kW (.drop bs) = Str.ofString "drop" from rfl)]
        refine ⟨.ref a, rfl, a, _, 0, _, rfl, rfl, hs5, at0, rfl, _, rfl, sN (show ¬ Str.ofString "drop" = Str.ofString "clear" by decide +kernel) ?_⟩
        refine close _ _ DL bs rfl x45 (xE.lst hDL4) nW1 (by omega) (fun r => ?_) (fun _ => rfl)
        unfold emF
        show _ = if decide (r ∈ bs) = true then _ else _
        by_cases e : r ∈ bs
        · rw [if_pos e, if_pos (decide_eq_true e)]
        · rw [if_neg e, if_neg (by simp [e])]
    · have xT : Ex [] H1 (upd H1 T3 (.tup [.str (Str.ofString "wipe"), .str (Str.ofString "clear"), .str (Str.ofString "drop")])) := .new nT3
      have hsT := xT.seqT hs
      have hDT := hD1.ex xT (by simp)
      have hLT := xT.lst hL1
      have tT := t1.ex xT
      generalize upd H1 T3 (.tup [.str (Str.ofString "wipe"), .str (Str.ofString "clear"), .str (Str.ofString "drop")]) = HT at xT hsT hDT hLT tT ⊢
      have dk : ∀ {H2 : Hp}, Ex [] HT H2 → ∃ kvs, H2 tb = some (.dK kvs) ∧ kvs.length < sizeLine := fun x => by
        obtain ⟨kvs, k1, k2, _⟩ := hDT.ex x (by simp)
        exact ⟨kvs, k1, by rw [sizeLine_eq]; omega⟩
      cases W with
      | tell b => exact absurd rfl ct
      | wipe b => cases he
      | clear b => cases he
      | drop b => cases he
      | risk b => cases pW1
      | fault b => cases pW1
      | back => cases pW1
      | call b => cases pW1
      | take b s =>
        obtain ⟨r2, rfl, hr2⟩ := one_s hr1
        obtain ⟨r3, rfl, hr3⟩ := one_s hr2
        refine ⟨.ref a, rfl, a, _, 0, _, rfl, rfl, hsT, at0, rfl, _, rfl, sN (show ¬ Str.ofString "take" = Str.ofString "mix" by decide +kernel) ⟨.ref a, rfl, a, _, 0, _, rfl, rfl, hsT, at0, rfl, _, rfl, sN (show ¬ Str.ofString "take" = Str.ofString "copy" by decide +kernel) ⟨.ref a, rfl, a, _, 0, _, rfl, rfl, hsT, at0, rfl, _, rfl, sN (show ¬ Str.ofString "take" = Str.ofString "open" by decide +kernel) ⟨.ref a, rfl, a, _, 0, _, rfl, rfl, hsT, at0, rfl, _, rfl, sY ?_⟩⟩⟩⟩
        refine ⟨.int num, rfl, .ref a, rfl, a, _, 2, .str s, rfl, rfl, hsT, at2, l1, fun Z nZ => ⟨l2, fun T nT => ?_⟩⟩
        have x2 : Ex [] HT (upd (upd HT Z (.tup [.str s])) T (.tup [.int num, .ref Z])) := (Ex.new nZ).trans (.new nT)
        have tv : Tp K (upd (upd HT Z (.tup [.str s])) T (.tup [.int num, .ref Z])) (.ref T) (wvD (num, [s])) := wv_mk (ws := [s]) (.of upd_same) (.of ((Ex.new nT (xs := [])).tup upd_same))
        obtain ⟨kvs, k1, kl⟩ := dk x2
        refine ⟨.ref tb, rfl, .ref a, rfl, a, _, 1, .str b, rfl, rfl, x2.seqT hsT, at1, tb, _, rfl, .inl ⟨kvs, qK b, k1, rfl, kl, rfl⟩, l0, fun a1 na => ⟨l0, fun b1 nb => ⟨l2, fun t nt => ?_⟩⟩⟩
        exact putw _ _ kvs b (xT.trans x2) rfl rfl k1 tv t a1 b1 na nb nt
      | ask b =>
        obtain ⟨r2, rfl, hr2⟩ := one_s hr1
        refine ⟨.ref a, rfl, a, _, 0, _, rfl, rfl, hsT, at0, rfl, _, rfl, sN (show ¬ Str.ofString "ask" = Str.ofString "mix" by decide +kernel) ⟨.ref a, rfl, a, _, 0, _, rfl, rfl, hsT, at0, rfl, _, rfl, sN (show ¬ Str.ofString "ask" = Str.ofString "copy" by decide +kernel) ⟨.ref a, rfl, a, _, 0, _, rfl, rfl, hsT, at0, rfl, _, rfl, sN (show ¬ Str.ofString "ask" = Str.ofString "open" by decide +kernel) ⟨.ref a, rfl, a, _, 0, _, rfl, rfl, hsT, at0, rfl, _, rfl, sN (show ¬ Str.ofString "ask" = Str.ofString "take" by decide +kernel) ?_⟩⟩⟩⟩
        refine ⟨.int num, rfl, l0, fun Z nZ => ⟨l2, fun T nT => ?_⟩⟩
        have x2 : Ex [] HT (upd (upd HT Z (.tup [])) T (.tup [.int num, .ref Z])) := (Ex.new nZ).trans (.new nT)
        have tv : Tp K (upd (upd HT Z (.tup [])) T (.tup [.int num, .ref Z])) (.ref T) (wvD (num, [])) := wv_mk (ws := []) (.of upd_same) (.of ((Ex.new nT (xs := [])).tup upd_same))
        obtain ⟨kvs, k1, kl⟩ := dk x2
        refine ⟨.ref tb, rfl, .ref a, rfl, a, _, 1, .str b, rfl, rfl, x2.seqT hsT, at1, tb, _, rfl, .inl ⟨kvs, qK b, k1, rfl, kl, rfl⟩, l0, fun a1 na => ⟨l0, fun b1 nb => ⟨l2, fun t nt => ?_⟩⟩⟩
        exact putw _ _ kvs b (xT.trans x2) rfl rfl k1 tv t a1 b1 na nb nt
      | number b m =>
        obtain ⟨r2, rfl, hr2⟩ := one_s hr1
        obtain rfl : num = m := hnum
        refine ⟨.ref a, rfl, a, _, 0, _, rfl, rfl, hsT, at0, rfl, _, rfl, sN (show ¬ Str.ofString "number" = Str.ofString "mix" by decide +kernel) ⟨.ref a, rfl, a, _, 0, _, rfl, rfl, hsT, at0, rfl, _, rfl, sN (show ¬ Str.ofString "number" = Str.ofString "copy" by decide +kernel) ⟨.ref a, rfl, a, _, 0, _, rfl, rfl, hsT, at0, rfl, _, rfl, sN (show ¬ Str.ofString "number" = Str.ofString "open" by decide +kernel) ⟨.ref a, rfl, a, _, 0, _, rfl, rfl, hsT, at0, rfl, _, rfl, sN (show ¬ Str.ofString "number" = Str.ofString "take" by decide +kernel) ?_⟩⟩⟩⟩
        refine ⟨.int num, rfl, l0, fun Z nZ => ⟨l2, fun T nT => ?_⟩⟩
        have x2 : Ex [] HT (upd (upd HT Z (.tup [])) T (.tup [.int num, .ref Z])) := (Ex.new nZ).trans (.new nT)
        have tv : Tp K (upd (upd HT Z (.tup [])) T (.tup [.int num, .ref Z])) (.ref T) (wvD (num, [])) := wv_mk (ws := []) (.of upd_same) (.of ((Ex.new nT (xs := [])).tup upd_same))
        obtain ⟨kvs, k1, kl⟩ := dk x2
        refine ⟨.ref tb, rfl, .ref a, rfl, a, _, 1, .str b, rfl, rfl, x2.seqT hsT, at1, tb, _, rfl, .inl ⟨kvs, qK b, k1, rfl, kl, rfl⟩, l0, fun a1 na => ⟨l0, fun b1 nb => ⟨l2, fun t nt => ?_⟩⟩⟩
        exact putw _ _ kvs b (xT.trans x2) rfl rfl k1 tv t a1 b1 na nb nt
      | copy b c =>
        obtain ⟨r2, rfl, hr2⟩ := one_s hr1
        obtain ⟨v1, rfl, tv⟩ : ∃ v1, xs1 = [v1] ∧ Tp K HT v1 (wvD (f c)) := by
          have tT : TpAll K HT xs1 [wvD (f c)] := tT
          cases tT with
          | cons h t => cases t; exact ⟨_, rfl, h⟩
        refine ⟨.ref a, rfl, a, _, 0, _, rfl, rfl, hsT, at0, rfl, _, rfl, sN (show ¬ Str.ofString "copy" = Str.ofString "mix" by decide +kernel) ⟨.ref a, rfl, a, _, 0, _, rfl, rfl, hsT, at0, rfl, _, rfl, sY ?_⟩⟩
        obtain ⟨kvs, k1, kl⟩ := dk (.refl (H := HT))
        refine ⟨.ref L, rfl, L, _, 0, v1, rfl, rfl, .of hLT, at0, .ref tb, rfl, .ref a, rfl, a, _, 1, .str b, rfl, rfl, hsT, at1, tb, _, rfl, .inl ⟨kvs, qK b, k1, rfl, kl, rfl⟩, l0, fun a1 na => ⟨l0, fun b1 nb => ⟨l2, fun t nt => ?_⟩⟩⟩
        exact putw _ _ kvs b xT rfl rfl k1 tv t a1 b1 na nb nt
      | opn b c =>
        obtain ⟨r2, rfl, hr2⟩ := one_s hr1
        obtain ⟨v1, rfl, tv1⟩ : ∃ v1, xs1 = [v1] ∧ Tp K HT v1 (wvD (f c)) := by
          have tT : TpAll K HT xs1 [wvD (f c)] := tT
          cases tT with
          | cons h t => cases t; exact ⟨_, rfl, h⟩
        obtain ⟨z1, z2, rfl, hz1, hz2⟩ := wv_inv tv1
        refine ⟨.ref a, rfl, a, _, 0, _, rfl, rfl, hsT, at0, rfl, _, rfl, sN (show ¬ Str.ofString "open" = Str.ofString "mix" by decide +kernel) ⟨.ref a, rfl, a, _, 0, _, rfl, rfl, hsT, at0, rfl, _, rfl, sN (show ¬ Str.ofString "open" = Str.ofString "copy" by decide +kernel) ⟨.ref a, rfl, a, _, 0, _, rfl, rfl, hsT, at0, rfl, _, rfl, sY ?_⟩⟩⟩
        refine ⟨.ref L, rfl, L, _, 0, .ref z1, rfl, rfl, .of hLT, at0, z1, _, 0, _, rfl, rfl, hz1, at0, _, 2, rfl, rfl, (by show (0 : Int) < 2; decide), l0, fun Z nZ => ⟨l2, fun T nT => ?_⟩⟩
        have x2 : Ex [] HT (upd (upd HT Z (.tup [])) T (.tup [.int ((f c).1 % 2), .ref Z])) := (Ex.new nZ).trans (.new nT)
        have tv : Tp K (upd (upd HT Z (.tup [])) T (.tup [.int ((f c).1 % 2), .ref Z])) (.ref T) (wvD ((f c).1 % 2, [])) := wv_mk (ws := []) (.of upd_same) (.of ((Ex.new nT (xs := [])).tup upd_same))
        obtain ⟨kvs, k1, kl⟩ := dk x2
        refine ⟨.ref tb, rfl, .ref a, rfl, a, _, 1, .str b, rfl, rfl, x2.seqT hsT, at1, tb, _, rfl, .inl ⟨kvs, qK b, k1, rfl, kl, rfl⟩, l0, fun a1 na => ⟨l0, fun b1 nb => ⟨l2, fun t nt => ?_⟩⟩⟩
        exact putw _ _ kvs b (xT.trans x2) rfl rfl k1 tv t a1 b1 na nb nt
      | mix b c d =>
        obtain ⟨r2, rfl, hr2⟩ := one_s hr1
        obtain ⟨v1, v2, rfl, tv1, tv2⟩ : ∃ v1 v2, xs1 = [v1, v2] ∧ Tp K HT v1 (wvD (f c)) ∧ Tp K HT v2 (wvD (f d)) := by
          have tT : TpAll K HT xs1 [wvD (f c), wvD (f d)] := tT
          cases tT with
          | cons h t =>
            cases t with
            | cons h2 t2 => cases t2; exact ⟨_, _, rfl, h, h2⟩
        obtain ⟨z1, z2, rfl, hz1, hz2⟩ := wv_inv tv1
        obtain ⟨y1, y2, rfl, hy1, hy2⟩ := wv_inv tv2
        obtain ⟨kvs0, _, _, _, _, _, _, h7⟩ := id hDT
        have lc := sub_len _ Ws (h7 c).1 (h7 c).2
        have ld := sub_len _ Ws (h7 d).1 (h7 d).2
        refine ⟨.ref a, rfl, a, _, 0, _, rfl, rfl, hsT, at0, rfl, _, rfl, sY ?_⟩
        refine ⟨.ref L, rfl, L, _, 0, .ref z1, rfl, rfl, .of hLT, at0, z1, _, 1, _, rfl, rfl, hz1, at1, .ref L, rfl, L, _, 1, .ref y1, rfl, rfl, .of hLT, at1, y1, _, 1, _, rfl, rfl, hy1, at1, ?_⟩
        refine tp_cat (K := K) hz2 hy2 (TpAll.strs _) (TpAll.strs _) (by rw [List.length_map, List.length_map]; omega) fun p1 H3 zs x3 hs3 ht3 => ?_
        rw [← List.map_append] at ht3
        rw [strs_inv ht3] at hs3
        refine ⟨p1, (f c).2 ++ (f d).2, rfl, hs3, by rw [List.length_append]; omega, fun p2 n2 => ?_⟩
        have x4 : Ex [] H3 (upd H3 p2 (SetS w p2 ((f c).2 ++ (f d).2))) := .new n2
        refine ⟨p2, (f c).2 ++ (f d).2, (f c).2 ++ (f d).2, rfl, upd_same, fun x hx => hx, by rw [List.length_append]; omega, fun ys p3 s1 s2 s3 n3 => ?_⟩
        have x5 : Ex [] (upd H3 p2 (SetS w p2 ((f c).2 ++ (f d).2))) (upd (upd H3 p2 (SetS w p2 ((f c).2 ++ (f d).2))) p3 (.lst (ys.map V.str))) := .new n3
        refine ⟨p3, ys.map V.str, rfl, .inl ⟨.of upd_same, fun p4 n4 => ?_⟩⟩
        have x6 : Ex [] (upd (upd H3 p2 (SetS w p2 ((f c).2 ++ (f d).2))) p3 (.lst (ys.map V.str))) (upd (upd (upd H3 p2 (SetS w p2 ((f c).2 ++ (f d).2))) p3 (.lst (ys.map V.str))) p4 (.tup (ys.map V.str))) := .new n4
        have h6 : (upd (upd (upd H3 p2 (SetS w p2 ((f c).2 ++ (f d).2))) p3 (.lst (ys.map V.str))) p4 (.tup (ys.map V.str))) p4 = some (.tup (ys.map V.str)) := upd_same
        have x06 := ((x3.trans x4).trans x5).trans x6
        have eu : sortU ((f c).2 ++ (f d).2) = ys := SU.eq ⟨s1, s2, s3⟩
        have hL6 := x06.lst hLT
        have hz6 := x06.seqT hz1
        have hy6 := x06.seqT hy1
        refine ⟨.ref L, rfl, L, _, 0, .ref z1, rfl, rfl, .of hL6, at0, z1, _, 0, _, rfl, rfl, hz6, at0, .ref L, rfl, L, _, 1, .ref y1, rfl, rfl, .of hL6, at1, y1, _, 0, _, rfl, rfl, hy6, at0, _, _, rfl, rfl, .ref L, rfl, L, _, 1, .ref y1, rfl, rfl, .of hL6, at1, y1, _, 0, _, rfl, rfl, hy6, at0, _, _, rfl, rfl, _, 10007, rfl, rfl, (by show (0 : Int) < 10007; decide), .ref p4, rfl, l2, fun T nT => ?_⟩
        have x7 : Ex [] (upd (upd (upd H3 p2 (SetS w p2 ((f c).2 ++ (f d).2))) p3 (.lst (ys.map V.str))) p4 (.tup (ys.map V.str))) (upd (upd (upd (upd H3 p2 (SetS w p2 ((f c).2 ++ (f d).2))) p3 (.lst (ys.map V.str))) p4 (.tup (ys.map V.str))) T (.tup [.int (((f c).1 + (f d).1 + (f d).1) % 10007), .ref p4])) := .new nT
        have ev : ((f c).1 + (f d).1 + (f d).1) % 10007 = ((f c).1 + 2 * (f d).1) % 10007 := by
          congr 1
          omega
        have tv : Tp K (upd (upd (upd (upd H3 p2 (SetS w p2 ((f c).2 ++ (f d).2))) p3 (.lst (ys.map V.str))) p4 (.tup (ys.map V.str))) T (.tup [.int (((f c).1 + (f d).1 + (f d).1) % 10007), .ref p4])) (.ref T) (wvD (valW f num (.mix b c d))) := by
          show Tp K _ _ (wvD (((f c).1 + 2 * (f d).1) % 10007, sortU ((f c).2 ++ (f d).2)))
          rw [eu, ← ev]
          exact wv_mk (.of upd_same) (.of (x7.tup h6))
        have x07 := x06.trans x7
        obtain ⟨kvs, k1, kl⟩ := dk x07
        refine ⟨.ref tb, rfl, .ref a, rfl, a, _, 1, .str b, rfl, rfl, x07.seqT hsT, at1, tb, _, rfl, .inl ⟨kvs, qK b, k1, rfl, kl, rfl⟩, l0, fun a1 na => ⟨l0, fun b1 nb => ⟨l2, fun t nt => ?_⟩⟩⟩
        exact putw _ _ kvs b (xT.trans x07) rfl rfl k1 tv t a1 b1 na nb nt
end
end K10

namespace Kk
open PySem PySem.Spec PyProof.Rows L2
/-! a dict, locked while it is walked -/
theorem Ex.lock {H H' : Hp} {d : Addr} {u : HO} {od : Obj} (h : H d = some u) (nt : NoTb u) (fx : Fx u = false) (x : Ex [] (upd H d (.frz od u)) H') (hd : H' d = some (.frz od u)) : Ex [] H (upd H' d u) := by
  refine ⟨fun b o _ hb hn => ?_, fun b o hb ho => ?_, fun P ht => ?_, fun b hb => ?_⟩
  · by_cases e : b = d
    · subst e
      rw [h] at hb
      cases hb
      exact upd_same
    · rw [upd_ne e]
      exact x.a b o (by simp) (by rw [upd_ne e]; exact hb) hn
  · have e : b ≠ d := fun z => by
      rw [z, h] at hb
      cases hb
      rw [fx] at ho; cases ho
    rw [upd_ne e]
    exact x.c b o (by rw [upd_ne e]; exact hb) ho
  · have h1 : GxR.TabG (upd H d (.frz od u)) P := tab_upd ht fun ps z => by
      rw [h] at z
      cases z
      exact nt _ rfl
    exact tab_upd (x.t P h1) fun ps z => by rw [hd] at z; cases z
  · have hb2 : H' b = none := upd_free hb
    have := x.f b hb2
    exact upd_free this
mutual
theorem Tp.keep {K : PySem.W.Frag} {H H' : Hp} (k1 : ∀ b xs, H b = some (.tup xs) → H' b = some (.tup xs)) (k2 : ∀ b o xs, H b = some (.frz o (.tup xs)) → H' b = some (.frz o (.tup xs))) : ∀ {v : V} {d : PyData}, Tp K H v d → Tp K H' v d
  | _, _, .non => .non
  | _, _, .bl b => .bl b
  | _, _, .int i => .int i
  | _, _, .str x => .str x
  | _, _, .tup h r => .tup (by
      rcases h with (h | ⟨o, h⟩) | h
      · exact .inl (.inl (k1 _ _ h))
      · exact .inl (.inr ⟨o, k2 _ _ _ h⟩)
      · exact .inr h) (TpAll.keep k1 k2 r)
theorem TpAll.keep {K : PySem.W.Frag} {H H' : Hp} (k1 : ∀ b xs, H b = some (.tup xs) → H' b = some (.tup xs)) (k2 : ∀ b o xs, H b = some (.frz o (.tup xs)) → H' b = some (.frz o (.tup xs))) : ∀ {vs : List V} {ds : List PyData}, TpAll K H vs ds → TpAll K H' vs ds
  | _, _, .nil => .nil
  | _, _, .cons h r => .cons (Tp.keep k1 k2 h) (TpAll.keep k1 k2 r)
end
theorem TpAll.unlock {K : PySem.W.Frag} {H : Hp} {d : Addr} {od : Obj} {kvs : List (Key × V)} (hd : H d = some (.frz od (.dK kvs))) {vs : List V} {ds : List PyData} (h : TpAll K H vs ds) : TpAll K (upd H d (.dK kvs)) vs ds :=
  h.keep (fun b xs e => by rw [upd_ne fun z => by rw [z, hd] at e; cases e]; exact e) (fun b o xs e => by rw [upd_ne fun z => by rw [z, hd] at e; cases e]; exact e)
theorem TpAll.lock {K : PySem.W.Frag} {H : Hp} {d : Addr} {od : Obj} {kvs : List (Key × V)} (hd : H d = some (.dK kvs)) {vs : List V} {ds : List PyData} (h : TpAll K H vs ds) : TpAll K (upd H d (.frz od (.dK kvs))) vs ds :=
  h.keep (fun b xs e => by rw [upd_ne fun z => by rw [z, hd] at e; cases e]; exact e) (fun b o xs e => by rw [upd_ne fun z => by rw [z, hd] at e; cases e]; exact e)
end Kk

set_option maxHeartbeats 4000000
namespace K10
open PySem PySem.Spec PyProof.Rows L2 Kk RZ
abbrev s_due : Stmt := topS 49
abbrev n_due : List Str := ["_law_row", "_law_numbers", "_law_most", "_law_things", "_law_told", "_law_gone", "_law_k", "_law_more", "_law_out", "_law_held", "_law_pair", "_law_box", "_law_number", "_law_worths"]
theorem sc_due : FnScope n_due ["_law_row", "_law_numbers", "_law_most"] (defScope s_due) := ⟨rfl, rfl, rfl, by decide +kernel, rfl, by decide +kernel, by decide +kernel⟩
/-- the words and the numbers, as they go together -/
structure RowD (ws : List Wo) (ns : List Int) (kd Ws : List Str) : Prop where
  len : ns.length = ws.length
  lt : ws.length < 62
  ok : ∀ (i : Nat) (W : Wo) (a : Int), ws[i]? = some W → ns[i]? = some a → okP kd Ws W ∧ numOk W a
  wl : Ws.length ≤ 20
  ws : ∀ s ∈ Ws, PyData.strOk s = true
  kd : ∀ q ∈ kd, q.length ≤ 1000
theorem stF_ans {f : Bq → Wv} {W : Wo} {a : Int} (h : plainW W = true) : stF f a W = stF f (ansW W a) W := by
  by_cases e : asks W = true
  · unfold ansW
    rw [if_pos e]
  · unfold stF
    by_cases p : isPut W = true
    · rw [if_pos p, if_pos p]
      congr 1
      cases W with
      | take b s => exact absurd (show asks (.take b s) = true from rfl) e
      | ask b => exact absurd (show asks (.ask b) = true from rfl) e
      | _ => rfl
    · rw [if_neg p, if_neg p]
/-- what a word leaves -/
noncomputable def qsW (f : Bq → Wv) (W : Wo) : List Str := if isDrop W = true then srtS ((dropB W).filter (nz f)) else []
theorem outD_qs (f : Bq → Wv) (W : Wo) : outD f W (dropB W) = (qsW f W).map (prD f) := by
  unfold outD qsW
  split <;> rfl
theorem leftW_qs (i : Nat) (f : Bq → Wv) (W : Wo) : leftW i f W = (qsW f W).map (entD i f) := by
  cases W with
  | drop bs =>
    show leftB i f bs = (if isDrop (.drop bs) = true then srtS ((dropB (.drop bs)).filter (nz f)) else []).map (entD i f)
    rw [if_pos (show isDrop (.drop bs) = true from rfl)]
    show leftB i f bs = (srtS (bs.filter (nz f))).map (entD i f)
    rw [srtS_filter]
    rfl
  | _ => rfl
def hz (f : Bq → Wv) (q : Str) : Bool := decide (¬ f q = (0, []))
theorem valV_at {kvs : List (Key × V)} {i : Nat} {k : Key} {v : V} (nd : (kvs.map (·.1)).Nodup) (h : kvs[i]? = some (k, v)) : valV kvs k = some v := by
  have il := (List.getElem?_eq_some_iff.mp h).1
  have ev := (List.getElem?_eq_some_iff.mp h).2
  unfold valV
  cases hf : kvs.find? (fun kv => decide (kv.1 = k)) with
  | none =>
    rw [List.find?_eq_none] at hf
    exact absurd (decide_eq_true (show (k, v).1 = k from rfl)) (hf _ (List.mem_of_getElem? h))
  | some p =>
    have hp : p.1 = k := of_decide_eq_true (List.find?_some (p := fun kv : Key × V => decide (kv.1 = k)) hf)
    obtain ⟨j, hj, ej⟩ := List.getElem_of_mem (List.mem_of_find?_eq_some hf)
    have e1 : (kvs.map (·.1))[j]'(by rw [List.length_map]; exact hj) = (kvs.map (·.1))[i]'(by rw [List.length_map]; exact il) := by
      rw [List.getElem_map, List.getElem_map, ej, hp, ev]
    have e2 := (List.getElem_inj nd).mp e1
    subst e2
    rw [ev] at ej
    rw [← ej]; rfl
theorem hd_srt {f : Bq → Wv} {bqs : List Str} (nd : bqs.Nodup) (h0 : ∀ q, ¬ q ∈ bqs → f q = (0, [])) : hdL f = srtS (bqs.filter (hz f)) := by
  obtain ⟨ys, pm, srt⟩ := srt_ex (bqs.filter (hz f))
  rw [srtS_eq pm srt]
  refine hdL_eq ⟨pw_sorted srt, pm.nodup_iff.mpr (nd.filter _), fun q => ?_⟩
  rw [pm.mem_iff, List.mem_filter]
  constructor
  · intro z; exact of_decide_eq_true z.2
  · intro z
    refine ⟨Decidable.byContradiction fun m => z (h0 q m), decide_eq_true z⟩
theorem nz_hd {f : Bq → Wv} {bqs : List Str} (nd : bqs.Nodup) (h0 : ∀ q, ¬ q ∈ bqs → f q = (0, [])) : nzL f = (hdL f).filter (nz f) := by
  obtain ⟨ys, pm, srt⟩ := srt_ex (bqs.filter (hz f))
  rw [hd_srt nd h0, srtS_eq pm srt]
  refine nzL_eq ⟨(pw_sorted srt).filter _, (pm.nodup_iff.mpr (nd.filter _)).filter _, fun q => ?_⟩
  rw [List.mem_filter, pm.mem_iff, List.mem_filter]
  constructor
  · intro z; exact of_decide_eq_true z.2
  · intro z
    have nf : ¬ f q = (0, []) := fun y => z (by rw [y])
    exact ⟨⟨Decidable.byContradiction fun m => nf (h0 q m), decide_eq_true nf⟩, decide_eq_true z⟩
theorem one_alike (f : Bq → Wv) (b b' : Str) : PySem.W.alike (oneD f b) (oneD f b') = true := by
  simp [oneD, PySem.W.alike, PySem.W.alikeAll, alike_strs]
theorem one_depth (f : Bq → Wv) (b : Str) : (oneD f b).depth ≤ 60 := by
  have := depth_strs (f b).2
  simp only [oneD, PyData.depth, PyData.depthAll]
  omega
section
variable {P : Program} {w : World} {K : PySem.W.Frag} {mg : Str → Option Value} {base : Heap}
/-- what is held, as a list that is not yet sorted -/
def tHeld (K : PySem.W.Frag) : TE := fun σ H Q => ∃ (tb : Addr) (z0 z1 z2 z4 z5 z6 z7 z8 z9 z10 z11 z12 z13 : Option V) (kd Ws : List Str) (n : Nat) (f : Bq → Wv), σ = [z0, z1, z2, some (.ref tb), z4, z5, z6, z7, z8, z9, z10, z11, z12, z13] ∧ Hd K H tb kd Ws n f ∧ n ≤ 1000 ∧ (∀ s ∈ Ws, PyData.strOk s = true) ∧
  ∀ H' D xs (bqs : List Str), Ex [] H H' → H' D = some (.lst xs) → TpAll K H' xs ((bqs.filter (hz f)).map (oneD f)) → bqs.Nodup → (∀ q, ¬ q ∈ bqs → f q = (0, [])) → bqs.length ≤ n → Q (.ref D) H'
def spDue (K : PySem.W.Frag) : Sp := fun vs H Q _ => ∃ (rw nl : Addr) (most : Nat) (rv : List V) (ws : List Wo) (ns : List Int) (kd Ws : List Str), vs = [.ref rw, .ref nl, .int most] ∧ SqT K H rw rv ∧ TpAll K H rv (ws.map wD) ∧ H nl = some (.lst (ns.map V.int)) ∧ RowD ws ns kd Ws ∧ most ≤ 1000 ∧
  ∀ H' v, Ex [] H H' → Tp K H' v (resD ws ns most) → Q v H'
theorem ok_due {fn f1 : Addr} {fd d1 : FuncData} {k : Nat} (F : Fun K "_law_due" "_law_due" s_due fn fd) (C__law_done : Cl P w K mg base k "_law_done" ["_law_things", "_law_word", "_law_number"] (spDone K) f1 d1)
    (m_range : mg "range" = none) (m_min : mg "min" = none) (m_len : mg "len" = none) (m_sorted : mg "sorted" = none) (m_tuple : mg "tuple" = none) : FnOk P w K mg base CX0 (k + 1) fn fd ["_law_row", "_law_numbers", "_law_most"] (spDue K) := by
  refine F.ok sc_due (fun vs H Q E h => ?_) (fun cdv A outer s H vs Q E hr h => ?_)
  · obtain ⟨rw, nl, most, rv, ws, ns, kd, Ws, rfl, _⟩ := h; rfl
  · obtain ⟨ra, nl, most, rv, ws, ns, kd, Ws, rfl, hrw, trv, hnl, R, hmost, q⟩ := h
    have hu64 : (A.deeper (envOfC "_law_due" (defScope s_due) s.heap.objs.size fn cdv)).units + 64 < cLine := hr.units
    refine ⟨_, (pss_cons (ps_set (i := 3) sc_due.nd rfl (.inr rfl) pe_dnewK)
      (pss_cons (ps_set (i := 4) sc_due.nd rfl (.inl rfl) (pe_lst pa_nil))
      (pss_cons (ps_set (i := 5) sc_due.nd rfl (.inl rfl) (pe_lst pa_nil))
      (pss_cons (ps_for PassesOwn.never rfl (pi_range1 (by rfl) m_range (pa_cons (pe_callB (call_min2 rfl) (by rfl) m_min (by decide +kernel) (pa_cons (pv 2) (pa_cons (pe_callB call_len_seq (by rfl) m_len PySem.boot_len (pa_cons (pv 0) pa_nil)) pa_nil))) pa_nil)) (pg_name (i := 6) sc_due.nd rfl (.inr rfl))
        (pss_cons (ps_asg (pe_call C__law_done.g hr (by rfl) C__law_done.m C__law_done.k C__law_done.b .nil pass0 (pa_cons (pv 3) (pa_cons (pe_ix ix_tup (pv 0) (pv 6) (fun _ _ => rfl)) (pa_cons (pe_ix ix_list (pv 1) (pv 6) (fun _ _ => rfl)) pa_nil)))) (pg_tup rfl (pgs_cons (pg_name (i := 7) sc_due.nd rfl (.inl rfl)) (pgs_cons (pg_name (i := 8) sc_due.nd rfl (.inl rfl)) pgs_nil))))
        (pss_cons (ps_expr (pe_bm PySem.F.plainAttrs_list PySem.F.slot_list_extend PySem.F.type_list_extend mt_extend (pv 4) (pa_cons (pv 7) pa_nil)))
        (pss_one (ps_expr (pe_bm PySem.F.plainAttrs_list PySem.F.slot_list_extend PySem.F.type_list_extend mt_extend (pv 5) (pa_cons (pe_lc (own := [("_law_pair", 10)]) (g := gName 10) (tt := tYes) rfl sc_due.nd (pi_list (pv 8)) (blkOk_by (N := n_due) (sc := defScope s_due) (by decide +kernel)) (fun _ _ _ _ _ => pg_name (i := 10) sc_due.nd rfl (Or.inl rfl)) (fun _ _ _ _ _ => pts_nil)
            (fun _ _ _ _ _ => pe_op (op_catB (K := K) rfl) (pe_tup (pa_cons (pe_tup (pa_cons pe_str (pa_cons (pv 6) pa_nil))) pa_nil)) (pv 10))) pa_nil)))))))
      (pss_cons (ps_set (i := 9) sc_due.nd rfl (.inl rfl) (pe_callB (cr_sortDt (K := K) rfl hr.units) (by rfl) m_sorted (by decide +kernel) (pa_cons (PE.by (t' := tHeld K) (pe_lock (pe_lc (own := [("_law_box", 11)]) (g := gName 11) rfl sc_due.nd (pi_keys (pv 3)) (blkOk_by (N := n_due) (sc := defScope s_due) (by decide +kernel)) (fun _ _ _ _ _ => pg_name (i := 11) sc_due.nd rfl (Or.inl rfl))
            (fun _ _ _ _ _ => pts_one (pt_cmpR (op_neDK (K := K) rfl hu64) (pe_dget (hu_of hr) (pv 3) (pv 11) (fun _ _ => rfl)) (pe_zero (pe_tup (pa_cons pe_int (pa_cons (pe_tup pa_nil) pa_nil)))) (nomark _)))
            (fun _ _ _ _ _ => pe_op (op_catB (K := K) rfl) (pe_tup (pa_cons (pv 11) pa_nil)) (pe_dget (hu_of hr) (pv 3) (pv 11) (fun _ _ => rfl))))) ?g1) pa_nil)))
      (pss_cons (ps_if (pt_cmpR op_lt (pv 2) (pe_callB call_len_seq (by rfl) m_len PySem.boot_len (pa_cons (pv 0) pa_nil)) (nomark _)) (pss_one (ps_ret (pe_tup (pa_cons pe_str (pa_cons (pe_tup (pa_cons pe_str (pa_cons (pv 2) pa_nil))) (pa_cons (pv 2) (pa_cons (pe_callTy call_tuple_of (by rfl) m_tuple (by decide +kernel) (pa_cons (pv 4) pa_nil)) (pa_cons (pe_callTy call_tuple_of (by rfl) m_tuple (by decide +kernel) (pa_cons (pv 5) pa_nil)) (pa_cons (pe_callTy call_tuple_of (by rfl) m_tuple (by decide +kernel) (pa_cons (pv 9) pa_nil)) pa_nil))))))))) pss_nil)
      (pss_cons (ps_expr (pe_bm PySem.F.plainAttrs_list PySem.F.slot_list_extend PySem.F.type_list_extend mt_extend (pv 5) (pa_cons (pe_lc (own := [("_law_box", 11), ("_law_number", 12), ("_law_worths", 13)]) (g := gTup K 3 (gCons (gName 11) (gCons (gName 12) (gCons (gName 13) gNil)))) rfl sc_due.nd (pi_list (pv 9)) (blkOk_by (N := n_due) (sc := defScope s_due) (by decide +kernel)) (fun _ _ _ _ _ => pg_tupK (K := K) rfl rfl (pgs_cons (pg_name (i := 11) sc_due.nd rfl (Or.inl rfl)) (pgs_cons (pg_name (i := 12) sc_due.nd rfl (Or.inl rfl)) (pgs_cons (pg_name (i := 13) sc_due.nd rfl (Or.inl rfl)) pgs_nil))))
            (fun _ _ _ _ _ => pts_one (pt_cmpR (op_neNilT (K := K) rfl hu64) (pv 13) (pe_tup pa_nil) (nomark _))) (fun _ _ _ _ _ => pe_tup (pa_cons (pe_tup (pa_cons pe_str (pa_cons (pe_callB (call_lenK (K := K) rfl) (by rfl) m_len PySem.boot_len (pa_cons (pv 0) pa_nil)) pa_nil))) (pa_cons (pv 11) (pa_cons (pv 13) pa_nil))))) pa_nil)))
      (pss_one (ps_ret (pe_tup (pa_cons pe_str (pa_cons (pe_callB call_len_seq (by rfl) m_len PySem.boot_len (pa_cons (pv 0) pa_nil)) (pa_cons (pe_callTy call_tuple_of (by rfl) m_tuple (by decide +kernel) (pa_cons (pv 4) pa_nil)) (pa_cons (pe_callTy call_tuple_of (by rfl) m_tuple (by decide +kernel) (pa_cons (pv 5) pa_nil)) pa_nil)))))))))))))), ?_⟩
    case g1 =>
      rintro σ H Q ⟨tb, z0, z1, z2, z4, z5, z6, z7, z8, z9, z10, z11, z12, z13, kd, Ws, n, f, rfl, hD, hn, hWs, q⟩
      obtain ⟨kvs, k1, k2, k3, k4, k5, k6, k7⟩ := id hD
      obtain ⟨bqs, eb, ev, hbk⟩ := keys_str k4
      have lb : bqs.length = kvs.length := by
        have := congrArg List.length eb
        rw [List.length_map, List.length_map] at this
        exact this.symm
      have ndb : bqs.Nodup := by
        rw [eb] at k3
        exact List.Pairwise.of_map qK (fun a b h e => h (by rw [e])) k3
      have h0 : ∀ q, ¬ q ∈ bqs → f q = (0, []) := fun q nm => by
        refine k6 q ?_
        unfold valV
        have : kvs.find? (fun kv => decide (kv.1 = qK q)) = none := by
          rw [List.find?_eq_none]
          intro p hp e
          have mk : qK q ∈ kvs.map (·.1) := List.mem_map.mpr ⟨p, hp, of_decide_eq_true e⟩
          rw [eb] at mk
          obtain ⟨r', h1, h2⟩ := List.mem_map.mp mk
          exact nm (by rw [← qK_inj h2]; exact h1)
        rw [this]; rfl
      refine ⟨tb, .dK kvs, k1, trivial, fun od => ?_⟩
      have hL : (upd H tb (.frz od (.dK kvs))) tb = some (.frz od (.dK kvs)) := upd_same
      have kT : ∀ {v : V} {d : PyData}, Tp K H v d → Tp K (upd H tb (.frz od (.dK kvs))) v d := fun h => h.keep (fun b xs e => by rw [upd_ne fun z => by rw [z, k1] at e; cases e]; exact e) (fun b o xs e => by rw [upd_ne fun z => by rw [z, k1] at e; cases e]; exact e)
      generalize hHL : upd H tb (.frz od (.dK kvs)) = HL at hL kT ⊢
      refine ⟨.ref tb, rfl, tb, od, rfl, .inl ⟨kvs, hL, fun D nD => ?_⟩⟩
      have tD : tb ≠ D := ne_of_none hL nD
      refine lc_it (walk_keys (d := tb) (o := od) (kvs := kvs)) (fun i H7 => ∃ acc, H7 D = some (.lst acc) ∧ TpAll K H7 acc (((bqs.take i).filter (hz f)).map (oneD f)) ∧ acc.length ≤ i ∧ H7 tb = some (.frz od (.dK kvs)) ∧ Ex [D] HL H7) ?_ ?_ ?_ ?_
      · exact ⟨[], upd_same, by rw [List.take_zero]; exact .nil, Nat.le_refl _, by rw [upd_ne tD]; exact hL, .new nD⟩
      · rintro i H7 _ ⟨_, _, _, _, h, _⟩
        exact h
      · rintro i x H7 H8 hi ⟨acc, hD7, ta, la, ht7, x7⟩ ⟨rfl, kk, v, hkv, rfl⟩
        have il : i < bqs.length := by rw [lb]; exact hi
        obtain ⟨y, hy⟩ : ∃ y, bqs[i]? = some y := ⟨_, List.getElem?_eq_getElem il⟩
        have ek : kk = qK y := by
          have h1 : (kvs.map (·.1))[i]? = some kk := by rw [List.getElem?_map, hkv]; rfl
          rw [eb, List.getElem?_map, hy] at h1
          exact (Option.some.inj h1).symm
        subst ek
        have hv : valV kvs (qK y) = some v := valV_at k3 hkv
        obtain ⟨v1, v2, rfl, hv1, hv2⟩ := wv_inv ((kT (k5 y v hv)).ex x7)
        have gD : ∀ {H9 : Hp}, H9 tb = some (.frz od (.dK kvs)) → DGet H9 tb (.str y) (some (.ref v1)) := fun h => .inl ⟨kvs, qK y, .inr ⟨od, h⟩, rfl, hv.symm⟩
        have tk : (bqs.take (i + 1)).filter (hz f) = (bqs.take i).filter (hz f) ++ (if hz f y = true then [y] else []) := by
          rw [List.take_add_one, hy, List.filter_append]
          congr 1
          show [y].filter (hz f) = _
          rw [List.filter_cons]
          split <;> simp [*]
        refine ⟨rfl, .ref tb, rfl, .str y, rfl, tb, _, rfl, gD ht7, fun Z nZ T nT => ?_⟩
        obtain ⟨xz, tz⟩ := zero_tp (K := K) nZ nT
        have hz1 := xz.seqT hv1
        have hz2 := xz.seqT hv2
        have tv8 : Tp K (upd (upd H8 Z (.tup [])) T (.tup [.int 0, .ref Z])) (.ref v1) (wvD (f y)) := wv_mk hz1 hz2
        refine ⟨wvD (f y), wvD (0, []), tv8.dp, tz.dp, shaped_wv (fun s m => hWs s ((k7 y).2 s m)), rfl, _, rfl, ?_⟩
        rw [eqv_nth]
        have ht8 := xz.a tb _ (by simp) ht7 (fun _ z => by cases z)
        have hD8 := xz.lst hD7
        refine ite2 (fun e => ?_) fun e => ?_
        · have ng : ¬ f y = (0, []) := fun z => by rw [decide_eq_true z] at e; cases e
          refine ⟨.str y, rfl, l1, fun T1 n1 => ⟨.ref tb, rfl, .str y, rfl, tb, _, rfl, gD ?_, ?_⟩⟩
          · exact (Ex.new n1 (xs := [])).a tb _ (by simp) ht8 (fun _ z => by cases z)
          have x1 : Ex [] (upd (upd H8 Z (.tup [])) T (.tup [.int 0, .ref Z])) (upd (upd (upd H8 Z (.tup [])) T (.tup [.int 0, .ref Z])) T1 (.tup [.str y])) := .new n1
          refine tp_cat (K := K) (ds := [.str y]) (es := [.int (f y).1, .tuple ((f y).2.map .str)]) (.of upd_same) (x1.seqT hz1) (.cons (.str _) .nil) (.cons (.int _) (.cons (.tup (x1.seqT hz2) (TpAll.strs _)) .nil)) (by simp) fun p3 H9 zs x9 hs9 ht9 => ?_
          have hD9 := x9.lst (x1.lst hD8)
          have x10 : Ex [D] H9 (upd H9 D (.lst (acc ++ [.ref p3]))) := .put hD9 nt_lst (by simp)
          have xall := ((xz.trans x1).trans x9)
          refine ⟨acc, hD9, by rw [sizeLine_eq]; omega, _, upd_same, ?_, by rw [List.length_append, List.length_singleton]; omega, ?_, (x7.trans (xall.mono (by simp))).trans x10⟩
          · rw [tk, if_pos (show hz f y = true from decide_eq_true ng), List.map_append]
            exact ((ta.ex xall).ex x10).app (.cons ((Tp.tup hs9 ht9).ex x10) .nil)
          · rw [upd_ne tD]
            exact xall.a tb _ (by simp) ht7 (fun _ z => by cases z)
        · have ng : f y = (0, []) := by
            refine Decidable.byContradiction fun z => e ?_
            rw [decide_eq_false z]; rfl
          refine ⟨acc, hD8, ?_, by omega, ht8, x7.trans (xz.mono (by simp))⟩
          rw [tk, if_neg (show ¬ hz f y = true from fun z => of_decide_eq_true z ng), List.append_nil]
          exact ta.ex xz
      · rintro H7 ⟨acc, hD7, ta, la, ht7, x7⟩
        rw [← lb, List.take_length] at ta
        refine ⟨ht7, ?_⟩
        have nDL : HL D = none := nD
        have x7' : Ex [] (upd H tb (.frz od (.dK kvs))) H7 := by rw [hHL]; exact Ex.own nDL .refl x7
        refine q _ D acc bqs (Ex.lock k1 (fun _ z => by cases z) rfl x7' ht7) (by rw [upd_ne tD.symm]; exact hD7) (ta.unlock ht7) ndb h0 (by omega)
    have lw := R.lt
    have trv0 := trv.len
    rw [List.length_map] at trv0
    refine fun tb ntb => ?_
    have xb : Ex [] H (upd H tb (.dK [])) := .new ntb
    refine ⟨Nat.zero_le _, fun tl ntl => ⟨Nat.zero_le _, fun gl ngl => ?_⟩⟩
    have xt : Ex [] (upd H tb (.dK [])) (upd (upd H tb (.dK [])) tl (.lst [])) := .new ntl
    have xg : Ex [] (upd (upd H tb (.dK [])) tl (.lst [])) (upd (upd (upd H tb (.dK [])) tl (.lst [])) gl (.lst [])) := .new ngl
    have x1 := (xb.trans xt).trans xg
    have h1b : (upd (upd (upd H tb (.dK [])) tl (.lst [])) gl (.lst [])) tb = some (.dK []) := xg.a tb _ (by simp) (xt.a tb _ (by simp) upd_same (fun _ z => by cases z)) (fun _ z => by cases z)
    have h1t : (upd (upd (upd H tb (.dK [])) tl (.lst [])) gl (.lst [])) tl = some (.lst []) := xg.lst upd_same
    have h1g : (upd (upd (upd H tb (.dK [])) tl (.lst [])) gl (.lst [])) gl = some (.lst []) := upd_same
    have tg : tl ≠ gl := ne_of_none (upd_same (H := upd H tb (.dK [])) (a := tl) (o := .lst [])) ngl
    have ntl0 : H tl = none := xb.f _ ntl
    have ngl0 : H gl = none := xb.f _ (xt.f _ ngl)
    generalize upd (upd (upd H tb (.dK [])) tl (.lst [])) gl (.lst []) = H1 at x1 h1b h1t h1g ⊢
    have own : ∀ {H2 : Hp}, Ex [tb, tl, gl] H1 H2 → Ex [] H H2 := fun y => Ex.own ntb .refl (Ex.own ntl0 .refl (Ex.own ngl0 (x1.mono (by simp)) (y.mono (by simp))))
    refine ⟨.int most, rfl, .ref ra, rfl, ra, rv, rfl, .inr (x1.seqT hrw), most, _, rfl, ?_⟩
    obtain ⟨N, eN, hN⟩ : ∃ N : Nat, (if ((rv.length : Nat) : Int) < (most : Int) then ((rv.length : Nat) : Int) else (most : Int)) = (N : Int) ∧ N = min most ws.length := by
      by_cases h : (rv.length : Int) < most
      · exact ⟨rv.length, by rw [if_pos h], by omega⟩
      · exact ⟨most, by rw [if_neg h], by omega⟩
    rw [eN]
    have hok : ∀ W ∈ ws, okW kd Ws W := fun W m => by
      obtain ⟨i, hi, e⟩ := List.getElem_of_mem m
      obtain ⟨a, ha⟩ : ∃ a, ns[i]? = some a := ⟨_, List.getElem?_eq_getElem (show i < ns.length by rw [R.len]; exact hi)⟩
      exact (R.ok i W a (by rw [List.getElem?_eq_getElem hi, e]) ha).1.2.1
    refine ⟨N, rfl, by omega, by omega, for_range (lo := 0) (n := (N : Int).toNat) (fun i σ H2 => ∃ y6 y7 y8, σ = [some (.ref ra), some (.ref nl), some (.int most), some (.ref tb), some (.ref tl), some (.ref gl), y6, y7, y8, none, none, none, none, none] ∧ Hd K H2 tb kd Ws i (goM ws ns i).f ∧ H2 tl = some (.lst ((goM ws ns i).told.map V.int)) ∧ (∃ gs, H2 gl = some (.lst gs) ∧ TpAll K H2 gs (goM ws ns i).left) ∧ Ex [tb, tl, gl] H1 H2) ?_ ?_ ?_⟩
    · exact ⟨_, _, _, rfl, hd_new h1b, h1t, ⟨[], h1g, .nil⟩, .refl⟩
    · rintro i σ H2 hi ⟨y6, y7, y8, rfl, hD2, ht2, ⟨gs, hg2, tg2⟩, x2⟩
      have il : i < ws.length := by omega
      obtain ⟨W, hW⟩ : ∃ W, ws[i]? = some W := ⟨_, List.getElem?_eq_getElem il⟩
      obtain ⟨a, ha⟩ : ∃ a, ns[i]? = some a := ⟨_, List.getElem?_eq_getElem (show i < ns.length by rw [R.len]; exact il)⟩
      obtain ⟨okp, hnum⟩ := R.ok i W a hW ha
      obtain ⟨v, hv⟩ : ∃ v, rv[i]? = some v := ⟨_, List.getElem?_eq_getElem (show i < rv.length by omega)⟩
      obtain ⟨dd, hdd, tv⟩ := trv.get hv
      rw [List.getElem?_map, hW] at hdd
      cases hdd
      have x02 : Ex [] H H2 := own x2
      have ei : (0 : Int) + (i : Nat) = ((i : Nat) : Int) := by omega
      obtain ⟨lt1, lt2⟩ := goM_len (ns := ns) hok i
      have hn2 : (ns.map V.int)[i]? = some (.int a) := by rw [List.getElem?_map, ha]; rfl
      refine ⟨.ref tb, rfl, .ref ra, rfl, .int (0 + (i : Nat)), rfl, ra, rv, _, v, rfl, rfl, x02.seqT hrw, by rw [ei]; exact atN hv, .ref nl, rfl, .int (0 + (i : Nat)), rfl, nl, _, _, .int a, rfl, rfl, .of (x02.lst hnl), by rw [ei]; exact atN hn2, ?_⟩
      refine ⟨tb, v, a, W, kd, Ws, i, (goM ws ns i).f, rfl, tv.ex x02, okp, hnum, hD2, by omega, R.wl, R.kd, (fun b e => by subst e; exact okp.2.2), fun H3 t a1 b1 ys nb1 x3 hD3 ht ha1 hb1 ty => ?_⟩
      refine ⟨t, _, rfl, .of ht, rfl, _, _, rfl, _, _, rfl, rfl, ?_⟩
      have kvn : ∃ kvs, H2 tb = some (.dK kvs) := by
        obtain ⟨kvs, k1, _⟩ := hD2
        exact ⟨kvs, k1⟩
      obtain ⟨kvs2, hk2⟩ := kvn
      have btl : tl ≠ tb := ne_of ht2 hk2 (by intro z; cases z)
      have bgl : gl ≠ tb := ne_of hg2 hk2 (by intro z; cases z)
      have ht3 := x3.lst ht2 (by simpa using btl)
      have hg3 := x3.lst hg2 (by simpa using bgl)
      have ltw : (tellW (goM ws ns i).f W).length ≤ 1 := by cases W <;> first | exact Nat.zero_le _ | exact Nat.le_refl _
      refine ⟨.ref tl, rfl, .inl ⟨rfl, _, .of ht3⟩, .ref a1, rfl, tl, a1, _, _, rfl, rfl, ht3, ha1, by rw [List.length_map, List.length_map, sizeLine_eq]; omega, ?_⟩
      have x4 : Ex [tl] H3 (upd H3 tl (.lst ((goM ws ns i).told.map V.int ++ (tellW (goM ws ns i).f W).map V.int))) := .put ht3 nt_lst (by simp)
      have ht4 : (upd H3 tl (.lst ((goM ws ns i).told.map V.int ++ (tellW (goM ws ns i).f W).map V.int))) tl = some (.lst (((goM ws ns i).told ++ tellW (goM ws ns i).f W).map V.int)) := by rw [upd_same, List.map_append]
      generalize upd H3 tl (.lst ((goM ws ns i).told.map V.int ++ (tellW (goM ws ns i).f W).map V.int)) = H4 at x4 ht4 ⊢
      have hg4 := x4.lst hg3 (by simpa using tg.symm)
      have btl1 : b1 ≠ tl := fun z => by rw [z, ht2] at nb1; cases nb1
      have bgl1 : b1 ≠ gl := fun z => by rw [z, hg2] at nb1; cases nb1
      have hb4 : H4 b1 = some (.lst ys) := x4.lst hb1 (by simpa using btl1)
      have ty4 := ty.ex x4
      rw [outD_qs] at ty4
      have lys : ys.length = (qsW (goM ws ns i).f W).length := by
        have := ty4.len
        rw [List.length_map] at this
        exact this
      have lqs : (qsW (goM ws ns i).f W).length ≤ 64 := by
        have := left_len (i := i) (f := (goM ws ns i).f) okp.2.1
        rw [leftW_qs, List.length_map] at this
        exact this
      refine ⟨.ref gl, rfl, .inl ⟨rfl, _, .of hg4⟩, .ref b1, rfl, b1, rfl, ⟨_, .of hb4⟩, fun D nD => ?_⟩
      have bD : b1 ≠ D := ne_of_none hb4 nD
      have gD : gl ≠ D := ne_of_none hg4 nD
      refine lc_list (a := b1) (xs := ys) (fun j H5 => ∃ acc, H5 D = some (.lst acc) ∧ TpAll K H5 acc (((qsW (goM ws ns i).f W).take j).map (entD i (goM ws ns i).f)) ∧ acc.length ≤ j ∧ H5 b1 = some (.lst ys) ∧ Ex [D] H4 H5) ?_ ?_ ?_ ?_
      · exact ⟨[], upd_same, by rw [List.take_zero]; exact .nil, Nat.le_refl _, by rw [upd_ne bD]; exact hb4, .new nD⟩
      · rintro j H5 _ ⟨_, _, _, _, h, _⟩
        exact .of h
      · rintro j x H5 hx ⟨acc, hD5, ta, la, hb5, x5⟩
        obtain ⟨d0, hd0, t0⟩ := ty4.get hx
        rw [List.getElem?_map] at hd0
        cases hqj : (qsW (goM ws ns i).f W)[j]? with
        | none => rw [hqj] at hd0; cases hd0
        | some y =>
          rw [hqj] at hd0
          cases hd0
          have jl : j < (qsW (goM ws ns i).f W).length := (List.getElem?_eq_some_iff.mp hqj).1
          have t5 := t0.ex x5
          unfold prD at t5
          cases t5 with
          | tup hso hao =>
            rename_i o zs
            refine ⟨rfl, tyes_if ?_⟩
            refine ⟨.int (0 + (i : Nat)), rfl, l2, fun T1 n1 => ⟨l1, fun T2 n2 => ⟨.ref o, rfl, ?_⟩⟩⟩
            have xa : Ex [] H5 (upd H5 T1 (.tup [.str emp, .int (0 + (i : Nat))])) := .new n1
            have xc : Ex [] (upd H5 T1 (.tup [.str emp, .int (0 + (i : Nat))])) (upd (upd H5 T1 (.tup [.str emp, .int (0 + (i : Nat))])) T2 (.tup [.ref T1])) := .new n2
            have tp1 : Tp K (upd (upd H5 T1 (.tup [.str emp, .int (0 + (i : Nat))])) T2 (.tup [.ref T1])) (.ref T1) (plcD i) := by
              refine plc_mk (.of ?_)
              have h := xc.tup (upd_same (H := H5) (a := T1) (o := .tup [V.str emp, .int (0 + (i : Nat))]))
              rw [h, ei]
            have xac := xa.trans xc
            refine tp_cat (K := K) (ds := [plcD i]) (.of upd_same) (xac.seqT hso) (.cons tp1 .nil) (hao.ex xac) (by simp) fun p6 H6 zs6 x6 hs6 ht6 => ?_
            have hD6 := x6.lst (xac.lst hD5)
            have x7 : Ex [D] H6 (upd H6 D (.lst (acc ++ [.ref p6]))) := .put hD6 nt_lst (by simp)
            have x56 := xac.trans x6
            refine ⟨acc, hD6, by rw [sizeLine_eq]; omega, _, upd_same, ?_, by rw [List.length_append, List.length_singleton]; omega, x7.lst (x56.lst hb5) (by simpa using bD), (x5.trans (x56.mono (by simp))).trans x7⟩
            rw [List.take_add_one, hqj]
            show TpAll K _ _ (((qsW (goM ws ns i).f W).take j ++ [y]).map (entD i (goM ws ns i).f))
            rw [List.map_append]
            exact ((ta.ex x56).ex x7).app (.cons ((Tp.tup hs6 ht6).ex x7) .nil)
      · rintro H5 ⟨acc, hD5, ta, la, hb5, x5⟩
        rw [lys, List.take_length] at ta
        have hg5 := x5.lst hg4 (by simpa using gD)
        have lgs : gs.length ≤ 64 * i := by rw [tg2.len]; exact lt2
        refine ⟨gl, D, gs, acc, rfl, rfl, hg5, hD5, by rw [sizeLine_eq]; omega, ?_⟩
        have x6 : Ex [gl] H5 (upd H5 gl (.lst (gs ++ acc))) := .put hg5 nt_lst (by simp)
        have nD3 : H2 D = none := x3.f _ (x4.f _ nD)
        have x34 : Ex [tb, tl, gl] H2 H4 := (x3.mono (by simp)).trans (x4.mono (by simp))
        have x45 : Ex [tb, tl, gl] H2 H5 := Ex.own nD3 (x34) (x5.mono (by simp))
        have x46 : Ex [tb, tl, gl] H2 (upd H5 gl (.lst (gs ++ acc))) := x45.trans (x6.mono (by simp))
        have eg := goM_succ hW ha
        have x5' : Ex [] H4 H5 := Ex.own nD .refl x5
        have xs6 : Ex [gl] H4 (upd H5 gl (.lst (gs ++ acc))) := (x5'.mono (by simp)).trans x6
        refine ⟨_, _, _, rfl, ?_, ?_, ⟨gs ++ acc, upd_same, ?_⟩, x2.trans x46⟩
        · rw [eg]
          show Hd K _ tb kd Ws (i + 1) (stF (goM ws ns i).f (ansW W a) W)
          rw [← stF_ans okp.1]
          exact (hD3.ex x4 (by simpa using btl.symm)).ex xs6 (by simpa using bgl.symm)
        · rw [eg]
          exact xs6.lst ht4 (by simpa using tg)
        · rw [eg]
          show TpAll K _ _ ((goM ws ns i).left ++ leftW i (goM ws ns i).f W)
          rw [leftW_qs]
          exact (((tg2.ex x34).ex xs6)).app (ta.ex x6)
    · rintro σ H2 ⟨y6, y7, y8, rfl, hD2, ht2, ⟨gs, hg2, tg2⟩, x2⟩
      rw [show (N : Int).toNat = N from rfl] at hD2 ht2 tg2
      have x02 : Ex [] H H2 := own x2
      obtain ⟨lt1, lt2⟩ := goM_len (ns := ns) hok N
      have lgs : gs.length ≤ 64 * N := by rw [tg2.len]; exact lt2
      refine ⟨tb, _, _, _, _, _, _, _, _, _, _, _, _, _, kd, Ws, N, (goM ws ns N).f, rfl, hD2, by omega, R.ws, fun H3 D xs bqs x3 hD3 tx nd h0 lb => ?_⟩
      refine ⟨D, xs, bqs.filter (hz (goM ws ns N).f), oneD (goM ws ns N).f, rfl, .of hD3, tx, one_alike _, fun b => ⟨_, _, rfl⟩, one_depth _, fun ys hl nhl tys => ?_⟩
      rw [merge_srt (enc := oneD (goM ws ns N).f) (r := fun q => [.int ((goM ws ns N).f q).1, .tuple (((goM ws ns N).f q).2.map .str)]) (fun q => rfl), ← hd_srt nd h0] at tys
      have xh : Ex [] H3 (upd H3 hl (.lst ys)) := .new nhl
      have hh : (upd H3 hl (.lst ys)) hl = some (.lst ys) := upd_same
      have x24 := x3.trans xh
      generalize upd H3 hl (.lst ys) = H4 at xh hh x24 tys ⊢
      have ht4 := x24.lst ht2
      have hg4 := x24.lst hg2
      have tg4 := tg2.ex x24
      have x04 := x02.trans x24
      have hrw4 := x04.seqT hrw
      refine ⟨.int most, rfl, .ref ra, rfl, ra, rv, rfl, .inr hrw4, most, _, rfl, rfl, _, rfl, ite2 (fun e => ?_) fun e => ?_⟩
      · have lm : most < ws.length := by have := of_decide_eq_true e; omega
        have eN2 : N = most := by omega
        subst eN2
        refine ⟨.int N, rfl, l2, fun T1 n1 => ?_⟩
        have y1 : Ex [] H4 (upd H4 T1 (.tup [.str emp, .int N])) := .new n1
        refine ⟨.int N, rfl, .ref tl, rfl, tl, _, rfl, .inl ⟨.of (y1.lst ht4), fun T2 n2 => ?_⟩⟩
        have y2 : Ex [] (upd H4 T1 (.tup [.str emp, .int N])) (upd (upd H4 T1 (.tup [.str emp, .int N])) T2 (.tup ((goM ws ns N).told.map V.int))) := .new n2
        refine ⟨.ref gl, rfl, gl, _, rfl, .inl ⟨.of (y2.lst (y1.lst hg4)), fun T3 n3 => ?_⟩⟩
        have y3 : Ex [] (upd (upd H4 T1 (.tup [.str emp, .int N])) T2 (.tup ((goM ws ns N).told.map V.int))) (upd (upd (upd H4 T1 (.tup [.str emp, .int N])) T2 (.tup ((goM ws ns N).told.map V.int))) T3 (.tup gs)) := .new n3
        refine ⟨.ref hl, rfl, hl, _, rfl, .inl ⟨.of (y3.lst (y2.lst (y1.lst hh))), fun T4 n4 => ⟨(by show 6 ≤ sizeLine; decide), fun T5 n5 => ?_⟩⟩⟩
        have y4 : Ex [] (upd (upd (upd H4 T1 (.tup [.str emp, .int N])) T2 (.tup ((goM ws ns N).told.map V.int))) T3 (.tup gs)) (upd (upd (upd (upd H4 T1 (.tup [.str emp, .int N])) T2 (.tup ((goM ws ns N).told.map V.int))) T3 (.tup gs)) T4 (.tup ys)) := .new n4
        have y5 : Ex [] (upd (upd (upd (upd H4 T1 (.tup [.str emp, .int N])) T2 (.tup ((goM ws ns N).told.map V.int))) T3 (.tup gs)) T4 (.tup ys)) (upd (upd (upd (upd (upd H4 T1 (.tup [.str emp, .int N])) T2 (.tup ((goM ws ns N).told.map V.int))) T3 (.tup gs)) T4 (.tup ys)) T5 (.tup [.str (Str.ofString "on"), .ref T1, .int N, .ref T2, .ref T3, .ref T4])) := .new n5
        have k1 := y5.tup (y4.tup (y3.tup (y2.tup (upd_same (H := H4) (a := T1) (o := .tup [V.str emp, .int N])))))
        have k2 := y5.tup (y4.tup (y3.tup (upd_same (H := upd H4 T1 (.tup [.str emp, .int N])) (a := T2) (o := .tup ((goM ws ns N).told.map V.int)))))
        have k3 := y5.tup (y4.tup (upd_same (H := upd (upd H4 T1 (.tup [.str emp, .int N])) T2 (.tup ((goM ws ns N).told.map V.int))) (a := T3) (o := .tup gs)))
        have k4 := y5.tup (upd_same (H := upd (upd (upd H4 T1 (.tup [.str emp, .int N])) T2 (.tup ((goM ws ns N).told.map V.int))) T3 (.tup gs)) (a := T4) (o := .tup ys))
        have yy := (((y1.trans y2).trans y3).trans y4).trans y5
        refine q _ _ (x04.trans yy) ?_
        unfold resD
        rw [if_pos lm]
        unfold onD
        refine .tup (.of ?_) (.cons (.str _) (.cons (plc_mk (.of k1)) (.cons (.int _) (.cons (.tup (.of k2) (ints_all _)) (.cons (.tup (.of k3) (tg4.ex yy)) (.cons (.tup (.of k4) (tys.ex yy)) .nil))))))
        rw [upd_same]
      · have lm : ¬ most < ws.length := fun z => e (decide_eq_true (by omega))
        have eN2 : N = ws.length := by omega
        refine ⟨.ref gl, rfl, .inl ⟨rfl, _, .of hg4⟩, .ref hl, rfl, hl, rfl, ⟨_, .of hh⟩, fun D2 nD2 => ?_⟩
        have hD2' : hl ≠ D2 := ne_of_none hh nD2
        have gD2 : gl ≠ D2 := ne_of_none hg4 nD2
        have tD2 : tl ≠ D2 := ne_of_none ht4 nD2
        have lys : ys.length = (hdL (goM ws ns N).f).length := by
          have := tys.len
          rw [List.length_map] at this
          exact this
        have lhd : (hdL (goM ws ns N).f).length ≤ 1000 := by
          obtain ⟨zs, pm, srt⟩ := srt_ex (bqs.filter (hz (goM ws ns N).f))
          rw [hd_srt nd h0, srtS_eq pm srt, pm.length_eq]
          have := List.length_filter_le (hz (goM ws ns N).f) bqs
          omega
        refine lc_list (a := hl) (xs := ys) (fun j H5 => ∃ acc, H5 D2 = some (.lst acc) ∧ TpAll K H5 acc ((((hdL (goM ws ns N).f).take j).filter (nz (goM ws ns N).f)).map (entD N (goM ws ns N).f)) ∧ acc.length ≤ j ∧ H5 hl = some (.lst ys) ∧ Ex [D2] H4 H5) ?_ ?_ ?_ ?_
        · exact ⟨[], upd_same, by rw [List.take_zero]; exact .nil, Nat.le_refl _, by rw [upd_ne hD2']; exact hh, .new nD2⟩
        · rintro j H5 _ ⟨_, _, _, _, h, _⟩
          exact .of h
        · rintro j x H5 hx ⟨acc, hD5, ta, la, hh5, x5⟩
          obtain ⟨d0, hd0, t0⟩ := tys.get hx
          rw [List.getElem?_map] at hd0
          cases hqj : (hdL (goM ws ns N).f)[j]? with
          | none => rw [hqj] at hd0; cases hd0
          | some y =>
            rw [hqj] at hd0
            cases hd0
            have jl : j < (hdL (goM ws ns N).f).length := (List.getElem?_eq_some_iff.mp hqj).1
            have t5 := t0.ex x5
            unfold oneD at t5
            cases t5 with
            | tup hso hao =>
              rename_i o zs
              cases hao with
              | cons a1 a2 =>
                cases a1
                cases a2 with
                | cons a3 a4 =>
                  cases a3
                  cases a4 with
                  | cons a5 a6 =>
                    cases a6
                    cases a5 with
                    | tup hs3 ha3 =>
                      rename_i wt us
                      rw [strs_inv ha3] at hs3
                      refine ⟨o, _, rfl, hso, rfl, _, _, rfl, _, _, rfl, _, _, rfl, rfl, rfl, .ref wt, rfl, l0, fun E1 nE => ?_⟩
                      have xE : Ex [] H5 (upd H5 E1 (.tup [])) := .new nE
                      refine ⟨wt, E1, _, rfl, rfl, xE.seqT hs3, .of upd_same, _, rfl, ?_⟩
                      have tk : ((hdL (goM ws ns N).f).take (j + 1)).filter (nz (goM ws ns N).f) = ((hdL (goM ws ns N).f).take j).filter (nz (goM ws ns N).f) ++ (if nz (goM ws ns N).f y = true then [y] else []) := by
                        rw [List.take_add_one, hqj, List.filter_append]
                        congr 1
                        show [y].filter (nz (goM ws ns N).f) = _
                        rw [List.filter_cons]
                        split <;> simp [*]
                      rw [tk]
                      have en : (!(((goM ws ns N).f y).2.map V.str).isEmpty) = nz (goM ws ns N).f y := by
                        unfold nz
                        cases ((goM ws ns N).f y).2 <;> simp
                      refine ite2 (fun e => ?_) fun e => ?_
                      · rw [en] at e
                        refine ⟨.ref ra, rfl, ra, rv, rfl, .inr (xE.seqT (x5.seqT hrw4)), l2, fun T1 n1 => ⟨.str y, rfl, .ref wt, rfl, l3, fun T2 n2 => ?_⟩⟩
                        have z1 : Ex [] (upd H5 E1 (.tup [])) (upd (upd H5 E1 (.tup [])) T1 (.tup [.str emp, .int rv.length])) := .new n1
                        have z2 : Ex [] (upd (upd H5 E1 (.tup [])) T1 (.tup [.str emp, .int rv.length])) (upd (upd (upd H5 E1 (.tup [])) T1 (.tup [.str emp, .int rv.length])) T2 (.tup [.ref T1, .str y, .ref wt])) := .new n2
                        have zz := (xE.trans z1).trans z2
                        have hD6 := zz.lst hD5
                        have x7 : Ex [D2] (upd (upd (upd H5 E1 (.tup [])) T1 (.tup [.str emp, .int rv.length])) T2 (.tup [.ref T1, .str y, .ref wt])) (upd (upd (upd (upd H5 E1 (.tup [])) T1 (.tup [.str emp, .int rv.length])) T2 (.tup [.ref T1, .str y, .ref wt])) D2 (.lst (acc ++ [.ref T2]))) := .put hD6 nt_lst (by simp)
                        refine ⟨acc, hD6, by rw [sizeLine_eq]; omega, _, upd_same, ?_, by rw [List.length_append, List.length_singleton]; omega, x7.lst (zz.lst hh5) (by simpa using hD2'), (x5.trans (zz.mono (by simp))).trans x7⟩
                        rw [if_pos e, List.map_append]
                        refine ((ta.ex zz).ex x7).app (.cons ?_ .nil)
                        have hT1 := x7.tup (z2.tup (upd_same (H := upd H5 E1 (.tup [])) (a := T1) (o := .tup [V.str emp, .int rv.length])))
                        rw [show rv.length = N by omega] at hT1
                        rw [show rv.length = N by omega] at x7 zz ⊢
                        exact .tup (.of (x7.tup upd_same)) (.cons (plc_mk (.of hT1)) (.cons (.str _) (.cons (.tup (x7.seqT (zz.seqT hs3)) (TpAll.strs _)) .nil)))
                      · rw [en] at e
                        rw [if_neg e, List.append_nil]
                        exact ⟨acc, xE.lst hD5, ta.ex xE, by omega, xE.lst hh5, x5.trans (xE.mono (by simp))⟩
        · rintro H5 ⟨acc, hD5, ta, la, hh5, x5⟩
          rw [lys, List.take_length, ← nz_hd nd h0] at ta
          have hg5 := x5.lst hg4 (by simpa using gD2)
          have ht5 := x5.lst ht4 (by simpa using tD2)
          refine ⟨gl, D2, gs, acc, rfl, rfl, hg5, hD5, by rw [sizeLine_eq]; omega, ?_⟩
          have x6 : Ex [gl] H5 (upd H5 gl (.lst (gs ++ acc))) := .put hg5 nt_lst (by simp)
          have hg6 : (upd H5 gl (.lst (gs ++ acc))) gl = some (.lst (gs ++ acc)) := upd_same
          have ht6 := x6.lst ht5 (by simpa using tg)
          have x5' : Ex [] H4 H5 := Ex.own nD2 .refl x5
          have x06 : Ex [] H (upd H5 gl (.lst (gs ++ acc))) := Ex.own ngl0 (x04.trans x5') x6
          have tga : TpAll K (upd H5 gl (.lst (gs ++ acc))) (gs ++ acc) ((goM ws ns N).left ++ (nzL (goM ws ns N).f).map (entD N (goM ws ns N).f)) := ((tg4.ex x5').app ta).ex x6
          generalize upd H5 gl (.lst (gs ++ acc)) = H6 at x6 hg6 ht6 x06 tga ⊢
          refine ⟨.ref ra, rfl, ra, rv, rfl, .inr (x06.seqT hrw), .ref tl, rfl, tl, _, rfl, .inl ⟨.of ht6, fun T1 n1 => ?_⟩⟩
          have y1 : Ex [] H6 (upd H6 T1 (.tup ((goM ws ns N).told.map V.int))) := .new n1
          refine ⟨.ref gl, rfl, gl, _, rfl, .inl ⟨.of (y1.lst hg6), fun T2 n2 => ⟨(by show 4 ≤ sizeLine; decide), fun T3 n3 => ?_⟩⟩⟩
          have y2 : Ex [] (upd H6 T1 (.tup ((goM ws ns N).told.map V.int))) (upd (upd H6 T1 (.tup ((goM ws ns N).told.map V.int))) T2 (.tup (gs ++ acc))) := .new n2
          have y3 : Ex [] (upd (upd H6 T1 (.tup ((goM ws ns N).told.map V.int))) T2 (.tup (gs ++ acc))) (upd (upd (upd H6 T1 (.tup ((goM ws ns N).told.map V.int))) T2 (.tup (gs ++ acc))) T3 (.tup [.str (Str.ofString "ended"), .int rv.length, .ref T1, .ref T2])) := .new n3
          have k1 := y3.tup (y2.tup (upd_same (H := H6) (a := T1) (o := .tup ((goM ws ns N).told.map V.int))))
          have k2 := y3.tup (upd_same (H := upd H6 T1 (.tup ((goM ws ns N).told.map V.int))) (a := T2) (o := .tup (gs ++ acc)))
          have yy := (y1.trans y2).trans y3
          refine q _ _ (x06.trans yy) ?_
          unfold resD
          rw [if_neg lm]
          unfold edD endL
          rw [← eN2]
          refine .tup (.of ?_) (.cons (.str _) (.cons (.int _) (.cons (.tup (.of k1) (ints_all _)) (.cons (.tup (.of k2) (tga.ex yy)) .nil))))
          rw [upd_same, show rv.length = N by omega]
end
end K10

set_option maxHeartbeats 4000000
namespace Kk
open PySem PySem.Spec PyProof.Rows L2
theorem pss_by {X : Cx} {st : List Stmt} {t t' : TS} (h : PSs X st t) (imp : ∀ D σ H, t' D σ H → t D σ H) : PSs X st t' := ⟨fun pins s σ H D I q => h.run pins s σ H D I (imp D σ H q)⟩
end Kk
namespace K10
open PySem PySem.Spec PyProof.Rows L2 Kk RZ
abbrev s_law : Stmt := topS 50
abbrev n_law : List Str := ["_law_script", "_law_deck_here", "_law_names_here", "_law_case", "_law_row", "_law_x", "_law_y", "_law_worth", "_law_numbers", "_law_answers", "_law_word", "_law_most", "_law_found", "_law_k"]
theorem sc_law : FnScope n_law ["_law_script"] (defScope s_law) := ⟨rfl, rfl, rfl, by decide +kernel, rfl, by decide +kernel, by decide +kernel⟩
/-! what a run answers is formed, and not deep -/
theorem fm_str (n : Nat) (s : Str) : fmD n (.str s) := by cases n <;> trivial
theorem fm_int (n : Nat) (i : Int) : fmD n (.int i) := by cases n <;> trivial
theorem fm_tup {n : Nat} {ds : List PyData} (h : ∀ d ∈ ds, fmD n d) : fmD (n + 1) (.tuple ds) := h
theorem fm_strs (n : Nat) (ss : List Str) : fmD (n + 1) (.tuple (ss.map .str)) := fm_tup fun d m => by
  obtain ⟨s, _, rfl⟩ := List.mem_map.mp m
  exact fm_str n s
theorem fm_ints (n : Nat) (is : List Int) : fmD (n + 1) (.tuple (is.map .int)) := fm_tup fun d m => by
  obtain ⟨s, _, rfl⟩ := List.mem_map.mp m
  exact fm_int n s
theorem fm_plc (n i : Nat) : fmD (n + 1) (plcD i) := fm_tup fun d m => by
  simp only [List.mem_cons, List.not_mem_nil, or_false] at m
  rcases m with rfl | rfl
  · exact fm_str n _
  · exact fm_int n _
theorem fm_ent (n i : Nat) (f : Bq → Wv) (q : Str) : fmD (n + 2) (entD i f q) := fm_tup fun d m => by
  simp only [List.mem_cons, List.not_mem_nil, or_false] at m
  rcases m with rfl | rfl | rfl
  · exact fm_plc n i
  · exact fm_str _ _
  · exact fm_strs n _
theorem fm_one (n : Nat) (f : Bq → Wv) (q : Str) : fmD (n + 2) (oneD f q) := fm_tup fun d m => by
  simp only [List.mem_cons, List.not_mem_nil, or_false] at m
  rcases m with rfl | rfl | rfl
  · exact fm_str _ _
  · exact fm_int _ _
  · exact fm_strs n _
theorem goM_left (ws : List Wo) (ns : List Int) : ∀ i, ∀ d ∈ (goM ws ns i).left, ∃ j f q, d = entD j f q
  | 0 => fun d m => by cases m
  | i + 1 => fun d m => by
    have ih := goM_left ws ns i
    have e : goM ws ns (i + 1) = (match ws[i]?, ns[i]? with
      | some W, some a => stepM i W (ansW W a) (goM ws ns i)
      | _, _ => goM ws ns i) := rfl
    cases hw : ws[i]? with
    | none => rw [e, hw] at m; exact ih d m
    | some W =>
      cases hn : ns[i]? with
      | none => rw [e, hw, hn] at m; exact ih d m
      | some a =>
        rw [goM_succ hw hn] at m
        have m2 : d ∈ (goM ws ns i).left ++ leftW i (goM ws ns i).f W := m
        rcases List.mem_append.mp m2 with m3 | m3
        · exact ih d m3
        · rw [leftW_qs] at m3
          obtain ⟨q, _, rfl⟩ := List.mem_map.mp m3
          exact ⟨_, _, _, rfl⟩
theorem fm_res (ws : List Wo) (ns : List Int) (most : Nat) : fmD 4 (resD ws ns most) := by
  have hl : ∀ i, fmD 3 (.tuple (goM ws ns i).left) := fun i => fm_tup fun d m => by
    obtain ⟨j, f, q, rfl⟩ := goM_left ws ns i d m
    exact fm_ent 0 _ _ _
  unfold resD
  split
  · refine fm_tup fun d m => ?_
    simp only [List.mem_cons, List.not_mem_nil, or_false] at m
    rcases m with rfl | rfl | rfl | rfl | rfl | rfl
    · exact fm_str _ _
    · exact fm_plc 2 _
    · exact fm_int _ _
    · exact fm_ints 2 _
    · exact hl _
    · refine fm_tup fun d m => ?_
      obtain ⟨q, _, rfl⟩ := List.mem_map.mp m
      exact fm_one 0 _ _
  · refine fm_tup fun d m => ?_
    simp only [List.mem_cons, List.not_mem_nil, or_false] at m
    rcases m with rfl | rfl | rfl | rfl
    · exact fm_str _ _
    · exact fm_int _ _
    · exact fm_ints 2 _
    · refine fm_tup fun d m => ?_
      rcases List.mem_append.mp m with m | m
      · obtain ⟨j, f, q, rfl⟩ := goM_left ws ns _ d m
        exact fm_ent 0 _ _ _
      · obtain ⟨q, _, rfl⟩ := List.mem_map.mp m
        exact fm_ent 0 _ _ _
theorem depthAll_le {n : Nat} : ∀ {ds : List PyData}, (∀ d ∈ ds, d.depth ≤ n) → PyData.depthAll ds ≤ n
  | [], _ => Nat.zero_le _
  | d :: ds, h => by
    show max d.depth (PyData.depthAll ds) ≤ n
    have h1 := h d List.mem_cons_self
    have h2 := depthAll_le (n := n) (ds := ds) fun e m => h e (List.mem_cons_of_mem _ m)
    omega
theorem fm_depth : ∀ (n : Nat) (d : PyData), fmD n d → d.depth ≤ n + 1
  | 0, .str s, _ => by simp [PyData.depth]
  | 0, .int s, _ => by simp [PyData.depth]
  | n + 1, .str s, _ => by simp [PyData.depth]
  | n + 1, .int s, _ => by simp [PyData.depth]
  | n + 1, .tuple ds, h => by
    have h2 : ∀ d ∈ ds, fmD n d := h
    have := depthAll_le (n := n + 1) (ds := ds) fun d m => fm_depth n d (h2 d m)
    simp only [PyData.depth]
    omega
  | 0, .tuple ds, h => h.elim
  | 0, .none, h => h.elim
  | 0, .bool _, h => h.elim
  | 0, .list _, h => h.elim
  | 0, .dict _, h => h.elim
  | n + 1, .none, h => h.elim
  | n + 1, .bool _, h => h.elim
  | n + 1, .list _, h => h.elim
  | n + 1, .dict _, h => h.elim
/-- which words want an answer -/
def askL : List Str := [Str.ofString "take", Str.ofString "ask"]
theorem ask_k {W : Wo} (h : plainW W = true) : decide (kW W ∈ askL) = asks W := by
  cases W with
  | take b s => exact (show decide (Str.ofString "take" ∈ askL) = true by decide +kernel)
  | ask b => exact (show decide (Str.ofString "ask" ∈ askL) = true by decide +kernel)
  | number b n => exact (show decide (Str.ofString "number" ∈ askL) = false by decide +kernel)
  | copy b c => exact (show decide (Str.ofString "copy" ∈ askL) = false by decide +kernel)
  | mix b c d => exact (show decide (Str.ofString "mix" ∈ askL) = false by decide +kernel)
  | opn b c => exact (show decide (Str.ofString "open" ∈ askL) = false by decide +kernel)
  | tell b => exact (show decide (Str.ofString "tell" ∈ askL) = false by decide +kernel)
  | wipe b => exact (show decide (Str.ofString "wipe" ∈ askL) = false by decide +kernel)
  | clear x => exact (show decide (Str.ofString "clear" ∈ askL) = false by decide +kernel)
  | drop bs => exact (show decide (Str.ofString "drop" ∈ askL) = false by decide +kernel)
  | risk x => cases h
  | fault x => cases h
  | back => cases h
  | call x => cases h
def isNum : Wo → Bool
  | .number _ _ => true
  | _ => false
theorem num_k (W : Wo) : decide (kW W = Str.ofString "number") = isNum W := by
  cases W with
  | number b n => exact (show decide (Str.ofString "number" = Str.ofString "number") = true by decide +kernel)
  | take b s => exact (show decide (Str.ofString "take" = Str.ofString "number") = false by decide +kernel)
  | ask b => exact (show decide (Str.ofString "ask" = Str.ofString "number") = false by decide +kernel)
  | copy b c => exact (show decide (Str.ofString "copy" = Str.ofString "number") = false by decide +kernel)
  | mix b c d => exact (show decide (Str.ofString "mix" = Str.ofString "number") = false by decide +kernel)
  | opn b c => exact (show decide (Str.ofString "open" = Str.ofString "number") = false by decide +kernel)
  | tell b => exact (show decide (Str.ofString "tell" = Str.ofString "number") = false by decide +kernel)
  | wipe b => exact (show decide (Str.ofString "wipe" = Str.ofString "number") = false by decide +kernel)
  | clear x => exact (show decide (Str.ofString "clear" = Str.ofString "number") = false by decide +kernel)
  | drop bs => exact (show decide (Str.ofString "drop" = Str.ofString "number") = false by decide +kernel)
  | risk x => exact (show decide (Str.ofString "risk" = Str.ofString "number") = false by decide +kernel)
  | fault x => exact (show decide (Str.ofString "fault" = Str.ofString "number") = false by decide +kernel)
  | back => exact (show decide (Str.ofString "back" = Str.ofString "number") = false by decide +kernel)
  | call x => exact (show decide (Str.ofString "call" = Str.ofString "number") = false by decide +kernel)
theorem two_keys {v1 v2 : V} : mergeK [] [((.inr kB : Key), v1), (.inr kWs, v2)] = [(.inr kB, v1), (.inr kWs, v2)] := rfl
theorem ixN_last {n : Nat} : ixN (n + 1) (-1) = some n := by
  unfold ixN
  rw [if_neg (by decide), if_pos (by omega)]
  congr 1
  omega
end K10

set_option maxHeartbeats 4000000
namespace K10
open PySem PySem.Spec PyProof.Rows L2 Kk RZ
section
variable {P : Program} {w : World} {K : PySem.W.Frag} {mg : Str → Option Value} {base : Heap}
/-- by any row of words, the rest holds -/
def tRest (K : PySem.W.Frag) : TS := fun D σ H => ∃ (z0 z2 z3 y5 y6 y7 : Option V) (d r : Addr) (rv : List V) (ws : List Wo) (bs Ws : List Str), σ = [z0, some (.ref d), z2, z3, some (.ref r), y5, y6, y7, none, none, none, none, none, none] ∧ Deck H d ∧ SqT K H r rv ∧ TpAll K H rv (ws.map wD) ∧ (∀ W ∈ ws, okP bs Ws W) ∧ ws.length < 62 ∧ Ws.length ≤ 20 ∧ (∀ s ∈ Ws, PyData.strOk s = true) ∧ (∀ q ∈ bs, q.length ≤ 1000) ∧ ∀ H', D.rt (.bl true) H'
/-- numbers drawn, as they go with the words so far -/
structure NumOk (ws : List Wo) (i : Nat) (ns as : List Int) : Prop where
  ln : ns.length = i
  la : as.length = cntA ws i
  nm : ∀ (j : Nat) (W : Wo) (a : Int), j < i → ws[j]? = some W → ns[j]? = some a → numOk W a
  an : ∀ (j : Nat) (W : Wo), j < i → ws[j]? = some W → asks W = true → ∃ a, ns[j]? = some a ∧ as[cntA ws j]? = some a ∧ 0 ≤ a ∧ a < 10000
theorem NumOk.step {ws : List Wo} {i : Nat} {ns as : List Int} {W : Wo} {v m : Int} (h : NumOk ws i ns as) (hW : ws[i]? = some W) (pl : plainW W = true) (v0 : 0 ≤ v) (v1 : v < 10000) (hm : numOk W m) (ham : asks W = true → m = v) : NumOk ws (i + 1) (ns ++ [m]) (as ++ (if asks W = true then [v] else [])) := by
  have ec := cntA_succ hW
  refine ⟨by rw [List.length_append, h.ln]; rfl, ?_, fun j W' a hj hW' ha => ?_, fun j W' hj hW' hk => ?_⟩
  · rw [List.length_append, h.la, ec]
    split <;> rfl
  · by_cases e : j < i
    · rw [List.getElem?_append_left (by rw [h.ln]; exact e)] at ha
      exact h.nm j W' a e hW' ha
    · have ej : j = i := by omega
      subst ej
      rw [hW] at hW'
      cases hW'
      rw [List.getElem?_append_right (by rw [h.ln]; exact Nat.le_refl _), h.ln, Nat.sub_self] at ha
      cases ha
      exact hm
  · by_cases e : j < i
    · obtain ⟨a, h1, h2, h3⟩ := h.an j W' e hW' hk
      refine ⟨a, by rw [List.getElem?_append_left (by rw [h.ln]; exact e)]; exact h1, ?_, h3⟩
      rw [List.getElem?_append_left (List.getElem?_eq_some_iff.mp h2).1]; exact h2
    · have ej : j = i := by omega
      subst ej
      rw [hW] at hW'
      cases hW'
      refine ⟨v, ?_, ?_, v0, v1⟩
      · rw [List.getElem?_append_right (by rw [h.ln]; exact Nat.le_refl _), h.ln, Nat.sub_self, ham hk]; rfl
      · rw [if_pos hk, List.getElem?_append_right (by rw [h.la]; exact Nat.le_refl _), h.la, Nat.sub_self]; rfl
def spLaw (K : PySem.W.Frag) : Sp := fun vs H Q _ => ∃ (s : Addr) (ns : List Int), vs = [.ref s] ∧ SqL K H s (ns.map V.int) ∧ ns.length ≤ 63 ∧ ∀ H', Q (.bl true) H'
def spFormed4 (K : PySem.W.Frag) : Sp := spFormed K 4
theorem ok_law {fn f1 f2 f3 f4 f5 f6 f7 f8 : Addr} {fd d1 d2 d3 d4 d5 d6 d7 d8 : FuncData} {k : Nat} (F : Fun K "law" "law" s_law fn fd)
    (C__law_deck : Cl P w K mg base k "_law_deck" ["_law_script"] (spDeck K) f1 d1) (C__law_names : Cl P w K mg base k "_law_names" ["_law_deck_here", "_law_many"] spNames f2 d2) (C__law_boxes : Cl P w K mg base k "_law_boxes" ["_law_deck_here", "_law_names_here"] spLBoxes f3 d3)
    (C__law_draw : Cl P w K mg base k "_law_draw" ["_law_deck_here", "_law_most"] spDraw f4 d4) (C__law_plain : Cl P w K mg base k "_law_plain" ["_law_deck_here", "_law_case"] (spLPlain K) f5 d5) (C_run : Cl P w K mg base k "run" ["program", "answers", "most"] (spRun K) f6 d6)
    (C__law_formed : Cl P w K mg base k "_law_formed" ["_law_found"] (spFormed K 4) f7 d7) (C__law_due : Cl P w K mg base k "_law_due" ["_law_row", "_law_numbers", "_law_most"] (spDue K) f8 d8)
    (m_tuple : mg "tuple" = none) (m_range : mg "range" = none) (m_len : mg "len" = none) : FnOk P w K mg base CX0 (k + 1) fn fd ["_law_script"] (spLaw K) := by
  refine F.ok sc_law (fun vs H Q E h => ?_) (fun cdv A outer s H vs Q E hr h => ?_)
  · obtain ⟨s, ns, rfl, _⟩ := h; rfl
  · obtain ⟨sc, script, rfl, hS, lS, q⟩ := h
    refine ⟨_, (pss_cons (ps_set (i := 1) sc_law.nd rfl (.inr rfl) (pe_call C__law_deck.g hr (by rfl) C__law_deck.m C__law_deck.k C__law_deck.b .nil pass0 (pa_cons (pv 0) pa_nil)))
      (pss_cons (ps_set (i := 2) sc_law.nd rfl (.inl rfl) (pe_call C__law_names.g hr (by rfl) C__law_names.m C__law_names.k C__law_names.b .nil pass0 (pa_cons (pv 1) (pa_cons pe_int pa_nil))))
      (pss_cons (ps_set (i := 3) sc_law.nd rfl (.inr rfl) (pe_disp (pps_cons pe_str (pe_call C__law_boxes.g hr (by rfl) C__law_boxes.m C__law_boxes.k C__law_boxes.b .nil pass0 (pa_cons (pv 1) (pa_cons (pv 2) pa_nil))) (pps_cons pe_str (pe_op op_cat (pe_slice sl_list (pv 2) (po_some pe_int) (po_some pe_int)) (pe_slice sl_list (pv 2) po_none (po_some pe_int))) pps_nil)) (by rfl) (by rfl) (fun z => by cases z) (by decide)))
      (pss_cons (ps_set (i := 4) sc_law.nd rfl (.inl rfl) (pe_callTy call_tuple_of (by rfl) m_tuple (by decide +kernel) (pa_cons (pe_lc (own := [("_law_k", 13)]) (g := gName 13) (tt := tYes) rfl sc_law.nd (pi_range1 (by rfl) m_range (pa_cons (pe_ix ix_list (pe_lst (pa_cons (pe_call C__law_draw.g hr (by rfl) C__law_draw.m C__law_draw.k C__law_draw.b .nil pass0 (pa_cons (pv 1) (pa_cons pe_int pa_nil))) (pa_cons (pe_call C__law_draw.g hr (by rfl) C__law_draw.m C__law_draw.k C__law_draw.b .nil pass0 (pa_cons (pv 1) (pa_cons pe_int pa_nil))) pa_nil))) (pe_call C__law_draw.g hr (by rfl) C__law_draw.m C__law_draw.k C__law_draw.b .nil pass0 (pa_cons (pv 1) (pa_cons pe_int pa_nil))) (fun _ _ => rfl)) pa_nil)) (blkOk_by (N := n_law) (sc := defScope s_law) (by decide +kernel)) (fun _ _ _ _ _ => pg_name (i := 13) sc_law.nd rfl (Or.inl rfl)) (fun _ _ _ _ _ => pts_nil) (fun _ _ _ _ _ => (pe_call C__law_plain.g hr (by rfl) C__law_plain.m C__law_plain.k C__law_plain.b .nil pass0 (pa_cons (pv 1) (pa_cons (pv 3) pa_nil))))) pa_nil)))
      (pss_cons (ps_if (pt_cmpR op_eq (pe_call C__law_draw.g hr (by rfl) C__law_draw.m C__law_draw.k C__law_draw.b .nil pass0 (pa_cons (pv 1) (pa_cons pe_int pa_nil))) pe_int (nomark _)) (pss_cons (ps_asg (pe_slice sl_list (pe_dget (hu_of hr) (pv 3) pe_str (fun _ _ => rfl)) po_none (po_some pe_int)) (pg_lst rfl (pgs_cons (pg_name (i := 5) sc_law.nd rfl (.inl rfl)) (pgs_cons (pg_name (i := 6) sc_law.nd rfl (.inl rfl)) pgs_nil))))
      (pss_one (ps_for PassesOwn.never rfl (pi_list (pe_dget (hu_of hr) (pv 3) pe_str (fun _ _ => rfl))) (pg_name (i := 7) sc_law.nd rfl (.inl rfl)) (pss_one (ps_set (i := 4) sc_law.nd rfl (.inl rfl) (pe_op op_catA (pe_tup (pa_cons (pe_tup (pa_cons pe_str (pa_cons (pv 6) (pa_cons (pv 7) pa_nil)))) (pa_cons (pe_tup (pa_cons pe_str (pa_cons (pv 5) (pa_cons (pv 5) (pa_cons (pv 6) pa_nil))))) pa_nil))) (pv 4))))))) pss_nil)
      (pss_by (t' := tRest K) (pss_cons (ps_set (i := 8) sc_law.nd rfl (.inl rfl) (pe_lst pa_nil))
      (pss_cons (ps_set (i := 9) sc_law.nd rfl (.inl rfl) (pe_lst pa_nil))
      (pss_cons (ps_for PassesOwn.never rfl (pi_tup (pv 4)) (pg_name (i := 10) sc_law.nd rfl (.inl rfl)) (pss_cons (ps_expr (pe_bm PySem.F.plainAttrs_list PySem.F.slot_list_append PySem.F.type_list_append mt_append (pv 8) (pa_cons (pe_ix ix_list (pe_lst (pa_cons pe_int (pa_cons pe_int (pa_cons pe_int (pa_cons (pe_call C__law_draw.g hr (by rfl) C__law_draw.m C__law_draw.k C__law_draw.b .nil pass0 (pa_cons (pv 1) (pa_cons pe_int pa_nil))) pa_nil))))) (pe_call C__law_draw.g hr (by rfl) C__law_draw.m C__law_draw.k C__law_draw.b .nil pass0 (pa_cons (pv 1) (pa_cons pe_int pa_nil))) (fun _ _ => rfl)) pa_nil)))
      (pss_cons (ps_if (pt_cmpR op_in_seq (pe_ix ix_tup (pv 10) pe_int (fun _ _ => rfl)) (pe_tup (pa_cons pe_str (pa_cons pe_str pa_nil))) rfl) (pss_one (ps_expr (pe_bm PySem.F.plainAttrs_list PySem.F.slot_list_append PySem.F.type_list_append mt_append (pv 9) (pa_cons (pe_ix ix_list (pv 8) (pe_un un_neg pe_int) (fun _ _ => rfl)) pa_nil)))) pss_nil)
      (pss_one (ps_if (pt_cmpR op_eq (pe_ix ix_tup (pv 10) pe_int (fun _ _ => rfl)) pe_str (nomark _)) (pss_one (ps_asg (pe_ix ix_tup (pv 10) pe_int (fun _ _ => rfl)) (pg_sub (pv 8) (pe_un un_neg pe_int) set_list))) pss_nil)))))
      (pss_cons (ps_for PassesOwn.never rfl (pi_list (pe_lst (pa_cons (pe_callB call_len_seq (by rfl) m_len PySem.boot_len (pa_cons (pv 4) pa_nil)) (pa_cons (pe_op op_add (pe_callB call_len_seq (by rfl) m_len PySem.boot_len (pa_cons (pv 4) pa_nil)) pe_int) (pa_cons pe_int (pa_cons (pe_call C__law_draw.g hr (by rfl) C__law_draw.m C__law_draw.k C__law_draw.b .nil pass0 (pa_cons (pv 1) (pa_cons (pe_op op_add (pe_callB call_len_seq (by rfl) m_len PySem.boot_len (pa_cons (pv 4) pa_nil)) pe_int) pa_nil))) (pa_cons (pe_call C__law_draw.g hr (by rfl) C__law_draw.m C__law_draw.k C__law_draw.b .nil pass0 (pa_cons (pv 1) (pa_cons (pe_op op_add (pe_callB call_len_seq (by rfl) m_len PySem.boot_len (pa_cons (pv 4) pa_nil)) pe_int) pa_nil))) (pa_cons (pe_callB call_len_seq (by rfl) m_len PySem.boot_len (pa_cons (pv 4) pa_nil)) pa_nil)))))))) (pg_name (i := 11) sc_law.nd rfl (.inl rfl)) (pss_cons (ps_set (i := 12) sc_law.nd rfl (.inl rfl) (pe_call C_run.g hr (by rfl) C_run.m C_run.k C_run.b .nil pass0 (pa_cons (pe_tup (pa_cons (pe_tup pa_nil) (pa_cons (pv 4) pa_nil))) (pa_cons (pe_callTy call_tuple_of (by rfl) m_tuple (by decide +kernel) (pa_cons (pv 9) pa_nil)) (pa_cons (pv 11) pa_nil)))))
      (pss_one (ps_if (PW.pt (pw_or (pt_not (pt_val (pe_call C__law_formed.g hr (by rfl) C__law_formed.m C__law_formed.k C__law_formed.b .nil pass0 (pa_cons (pv 12) pa_nil)))) (pw_or1 (pt_cmpR (op_neSame (K := K) rfl hr.units) (pv 12) (pe_call C__law_due.g hr (by rfl) C__law_due.m C__law_due.k C__law_due.b .nil pass0 (pa_cons (pv 4) (pa_cons (pv 8) (pa_cons (pv 11) pa_nil)))) (nomark _))))) (pss_one (ps_ret pe_bl)) pss_nil))))
      (pss_one (ps_ret pe_bl)))))) ?g1)))))), ?_⟩
    case g1 =>
      rintro D σ H ⟨z0, z2, z3, y5, y6, y7, d, r, rv, ws, bs, Ws, rfl, hD, hr1, trv, hok, lw, lWs, hWs, hbs, q⟩
      have lrv := trv.len
      rw [List.length_map] at lrv
      have dne : ∀ {H9 : Hp} {B : Addr}, Deck H9 d → H9 B = none → d ≠ B := fun ⟨c, s, zs, h, _⟩ n z => by rw [z, n] at h; cases h
      refine ⟨l0, fun nl nnl => ⟨l0, fun al nal => ?_⟩⟩
      have x1 : Ex [] H (upd H nl (.lst [])) := .new nnl
      have x2 : Ex [] (upd H nl (.lst [])) (upd (upd H nl (.lst [])) al (.lst [])) := .new nal
      have dn : d ≠ nl := dne hD nnl
      have da : d ≠ al := dne (hD.ex x1 (by simp)) nal
      have na : nl ≠ al := ne_of_none upd_same nal
      have nal0 : H al = none := x1.f _ nal
      have x12 := x1.trans x2
      have hn2 : (upd (upd H nl (.lst [])) al (.lst [])) nl = some (.lst []) := x2.lst upd_same
      have ha2 : (upd (upd H nl (.lst [])) al (.lst [])) al = some (.lst []) := upd_same
      generalize upd (upd H nl (.lst [])) al (.lst []) = H1 at x2 x12 hn2 ha2 ⊢
      have own : ∀ {H2 : Hp}, Ex [d, nl, al] H1 H2 → Ex [d] H H2 := fun y => Ex.own nnl (xs := [d]) (H1 := H) .refl (Ex.own nal0 (xs := [nl, d]) (x12.mono (by simp)) (y.mono (by simp)))
      refine ⟨.ref r, rfl, r, rfl, ⟨rv, x12.seqT hr1⟩, for_tup (a := r) (xs := rv) (fun i σ H2 => ∃ y10 ns as, σ = [z0, some (.ref d), z2, z3, some (.ref r), y5, y6, y7, some (.ref nl), some (.ref al), y10, none, none, none] ∧ H2 nl = some (.lst (ns.map V.int)) ∧ H2 al = some (.lst (as.map V.int)) ∧ NumOk ws i ns as ∧ Deck H2 d ∧ Ex [d, nl, al] H1 H2) ?_ ?_ ?_ ?_⟩
      · exact ⟨_, [], [], rfl, hn2, ha2, ⟨rfl, rfl, fun j W a hj => absurd hj (Nat.not_lt_zero _), fun j W hj => absurd hj (Nat.not_lt_zero _)⟩, hD.ex x12 (by simp), .refl⟩
      · rintro i σ H2 _ ⟨_, _, _, _, _, _, _, _, x⟩
        exact (own x).seqT hr1
      · rintro i x σ H2 hx ⟨y10, ns, as, rfl, hnl, hal, hNum, D2, xx⟩
        obtain ⟨d0, hd0, tx⟩ := trv.get hx
        rw [List.getElem?_map] at hd0
        cases hWi : ws[i]? with
        | none => rw [hWi] at hd0; cases hd0
        | some W =>
          rw [hWi] at hd0
          cases hd0
          have il : i < ws.length := (List.getElem?_eq_some_iff.mp hWi).1
          obtain ⟨pW1, oW1, nW1⟩ := hok W (List.mem_of_getElem? hWi)
          have x02 := own xx
          refine ⟨.ref nl, rfl, .inl ⟨rfl, _, .of hnl⟩, .ref d, rfl, d, 10000, rfl, D2, by decide, by decide, fun H3 v v0 v1 x3 D3 => ⟨(by show 4 ≤ sizeLine; decide), fun L nL => ?_⟩⟩
          have xL : Ex [] H3 (upd H3 L (.lst [.int 0, .int 1, .int 9999, .int v])) := .new nL
          have dL : d ≠ L := dne D3 nL
          refine ⟨.ref d, rfl, d, 4, rfl, D3.ex xL (by simp), by decide, by decide, fun H5 u u0 u1 x5 D5 => ?_⟩
          have hL5 := x5.lst (upd_same (H := H3) (a := L) (o := .lst [.int 0, .int 1, .int 9999, .int v])) (by simpa using dL.symm)
          obtain ⟨e, me, ae, _⟩ := mem_at3 (xs := [V.int 0, .int 1, .int 9999, .int v]) u0 u1
          obtain ⟨n, rfl, n0, n1⟩ : ∃ n : Int, e = .int n ∧ 0 ≤ n ∧ n < 10000 := by
            simp only [List.mem_cons, List.not_mem_nil, or_false] at me
            rcases me with rfl | rfl | rfl | rfl
            · exact ⟨_, rfl, by decide, by decide⟩
            · exact ⟨_, rfl, by decide, by decide⟩
            · exact ⟨_, rfl, by decide, by decide⟩
            · exact ⟨_, rfl, v0, v1⟩
          have x25 : Ex [d] H2 H5 := (x3.trans (xL.mono (by simp))).trans x5
          have hnl5 := x25.lst hnl (by simpa using dn.symm)
          have hal5 := x25.lst hal (by simpa using da.symm)
          refine ⟨L, _, u, _, rfl, rfl, .of hL5, ae, nl, _, _, rfl, rfl, hnl5, by rw [List.length_map, hNum.ln, sizeLine_eq]; omega, ?_⟩
          have x6 : Ex [nl] H5 (upd H5 nl (.lst (ns.map V.int ++ [.int n]))) := .put hnl5 nt_lst (by simp)
          have hnl6 : (upd H5 nl (.lst (ns.map V.int ++ [.int n]))) nl = some (.lst ((ns ++ [n]).map V.int)) := by rw [upd_same, List.map_append]; rfl
          have hal6 := x6.lst hal5 (by simpa using na.symm)
          have D6 := D5.ex x6 (by simpa using dn)
          have xx6 : Ex [d, nl, al] H1 (upd H5 nl (.lst (ns.map V.int ++ [.int n]))) := (xx.trans (x25.mono (by simp))).trans (x6.mono (by simp))
          generalize upd H5 nl (.lst (ns.map V.int ++ [.int n])) = H6 at x6 hnl6 hal6 D6 xx6 ⊢
          obtain ⟨wa, wr, rfl, hws, hwr⟩ := word_in (tx.ex (own xx6))
          refine ⟨.ref wa, rfl, wa, _, 0, _, rfl, rfl, hws, at0, l2, fun T nT => ?_⟩
          have xT : Ex [] H6 (upd H6 T (.tup [.str (Str.ofString "take"), .str (Str.ofString "ask")])) := .new nT
          refine ⟨T, askL.map V.str, rfl, .inr (.of upd_same), rfl, strs_flat _, _, rfl, ?_⟩
          generalize upd H6 T (.tup [.str (Str.ofString "take"), .str (Str.ofString "ask")]) = H7 at xT ⊢
          have hnl7 := xT.lst hnl6
          have hal7 := xT.lst hal6
          have D7 := D6.ex xT (by simp)
          have xx7 : Ex [d, nl, al] H1 H7 := xx6.trans (xT.mono (by simp))
          show if inV _ (askL.map V.str) = true then _ else _
          rw [inV_strs, ask_k pW1]
          -- the last part: a number is its own
          have lst : ∀ (H8 : Hp) (as' : List Int), Ex [d, nl, al] H1 H8 → H8 nl = some (.lst ((ns ++ [n]).map V.int)) → H8 al = some (.lst (as'.map V.int)) → Deck H8 d → as' = as ++ (if asks W = true then [n] else []) → SqT K H8 wa (.str (kW W) :: wr) → TpAll K H8 wr (pW W) →
              (isNum W = true → ∃ b m r2, W = .number b m ∧ wr = .str b :: .int m :: r2 ∧ ∃ j, ixN ((ns ++ [n]).map V.int).length (-1) = some j ∧ (∃ y10 ns' as'', [z0, some (V.ref d), z2, z3, some (.ref r), y5, y6, y7, some (.ref nl), some (.ref al), some (.ref wa), none, none, none] = [z0, some (.ref d), z2, z3, some (.ref r), y5, y6, y7, some (.ref nl), some (.ref al), y10, none, none, none] ∧ (upd H8 nl (.lst (((ns ++ [n]).map V.int).set j (.int m)))) nl = some (.lst (ns'.map V.int)) ∧ (upd H8 nl (.lst (((ns ++ [n]).map V.int).set j (.int m)))) al = some (.lst (as''.map V.int)) ∧ NumOk ws (i + 1) ns' as'' ∧ Deck (upd H8 nl (.lst (((ns ++ [n]).map V.int).set j (.int m)))) d ∧ Ex [d, nl, al] H1 (upd H8 nl (.lst (((ns ++ [n]).map V.int).set j (.int m)))))) ∧
              (isNum W = false → (∃ y10 ns' as'', [z0, some (V.ref d), z2, z3, some (.ref r), y5, y6, y7, some (.ref nl), some (.ref al), some (.ref wa), none, none, none] = [z0, some (.ref d), z2, z3, some (.ref r), y5, y6, y7, some (.ref nl), some (.ref al), y10, none, none, none] ∧ H8 nl = some (.lst (ns'.map V.int)) ∧ H8 al = some (.lst (as''.map V.int)) ∧ NumOk ws (i + 1) ns' as'' ∧ Deck H8 d ∧ Ex [d, nl, al] H1 H8)) := fun H8 as' x8 hn8 ha8 D8 ea hw8 hwr8 => by
            refine ⟨fun hnm => ?_, fun hnm => ?_⟩
            · cases W <;> try cases hnm
              rename_i b m
              obtain ⟨r2, rfl, hr2⟩ := one_s hwr8
              obtain ⟨r3, rfl, hr3⟩ := one_i hr2
              have el : ((ns ++ [n]).map V.int).length = i + 1 := by rw [List.length_map, List.length_append, hNum.ln]; rfl
              refine ⟨b, m, r3, rfl, rfl, i, by rw [el]; exact ixN_last, _, ns ++ [m], as', rfl, ?_, ?_, ?_, D8.ex (.put (xs := [nl]) hn8 nt_lst (by simp)) (by simpa using dn), x8.trans (.put hn8 nt_lst (by simp))⟩
              · rw [upd_same, List.map_append, List.map_append, List.set_append_right _ _ (by rw [List.length_map, hNum.ln]; exact Nat.le_refl _), List.length_map, hNum.ln, Nat.sub_self]; rfl
              · rw [upd_ne na.symm]; exact ha8
              · rw [ea]
                exact hNum.step hWi pW1 n0 n1 rfl (fun z => by cases z)
            · refine ⟨_, ns ++ [n], as', rfl, hn8, ha8, ?_, D8, x8⟩
              rw [ea]
              refine hNum.step hWi pW1 n0 n1 ?_ (fun _ => rfl)
              cases W with
              | number b m => cases hnm
              | _ => trivial
          have wnum : ∀ {A B : Prop}, (isNum W = true → A) → (isNum W = false → B) → if decide (V.str (kW W) = V.str (Str.ofString "number")) = true then A else B := fun h g => by
            rw [dec_str, num_k]
            cases hh : isNum W with
            | true => rw [if_pos rfl]; exact h hh
            | false => rw [if_neg (by decide)]; exact g hh
          cases hk : asks W with
          | true =>
            rw [if_pos rfl]
            have el : ((ns ++ [n]).map V.int).length = i + 1 := by rw [List.length_map, List.length_append, hNum.ln]; rfl
            have hat : atI ((ns ++ [n]).map V.int) (-1) = some (.int n) := by
              rw [List.map_append]
              exact atI_last _ _
            refine ⟨.ref al, rfl, .inl ⟨rfl, _, .of hal7⟩, .ref nl, rfl, 1, rfl, nl, _, -1, .int n, rfl, rfl, .of hnl7, hat, al, _, _, rfl, rfl, hal7, ?_, ?_⟩
            · rw [List.length_map, hNum.la, sizeLine_eq]
              have : cntA ws i ≤ ws.length := by
                unfold cntA
                refine Nat.le_trans (List.length_filter_le _ _) ?_
                rw [List.length_take]; exact Nat.min_le_right _ _
              omega
            have x8 : Ex [al] H7 (upd H7 al (.lst (as.map V.int ++ [.int n]))) := .put hal7 nt_lst (by simp)
            have ha8 : (upd H7 al (.lst (as.map V.int ++ [.int n]))) al = some (.lst ((as ++ [n]).map V.int)) := by rw [upd_same, List.map_append]; rfl
            have hn8 := x8.lst hnl7 (by simpa using na)
            have xx8 : Ex [d, nl, al] H1 (upd H7 al (.lst (as.map V.int ++ [.int n]))) := xx7.trans (x8.mono (by simp))
            have hw8 := x8.seqT (xT.seqT hws)
            have hwr8 := (hwr.ex xT).ex x8
            have D8 := D7.ex x8 (by simpa using da)
            generalize upd H7 al (.lst (as.map V.int ++ [.int n])) = H8 at x8 ha8 hn8 xx8 hw8 hwr8 D8 ⊢
            obtain ⟨L1, L2⟩ := lst H8 (as ++ [n]) xx8 hn8 ha8 D8 (by rw [hk]; rfl) hw8 hwr8
            refine ⟨.ref wa, rfl, wa, _, 0, _, rfl, rfl, hw8, at0, rfl, _, rfl, wnum (fun h => ?_) fun h => L2 h⟩
            obtain ⟨b, m, r2, eW, er, j, hj, hh⟩ := L1 h
            rw [er] at hw8
            exact ⟨.ref wa, rfl, wa, _, 2, .int m, rfl, rfl, hw8, at2, .ref nl, rfl, 1, rfl, nl, _, -1, j, rfl, rfl, hn8, hj, hh⟩
          | false =>
            rw [if_neg (by decide)]
            have hw8 := xT.seqT hws
            have hwr8 := hwr.ex xT
            obtain ⟨L1, L2⟩ := lst H7 as xx7 hnl7 hal7 D7 (by rw [hk]; simp) hw8 hwr8
            refine ⟨.ref wa, rfl, wa, _, 0, _, rfl, rfl, hw8, at0, rfl, _, rfl, wnum (fun h => ?_) fun h => L2 h⟩
            obtain ⟨b, m, r2, eW, er, j, hj, hh⟩ := L1 h
            rw [er] at hw8
            exact ⟨.ref wa, rfl, wa, _, 2, .int m, rfl, rfl, hw8, at2, .ref nl, rfl, 1, rfl, nl, _, -1, j, rfl, rfl, hnl7, hj, hh⟩
      · rintro σ H2 ⟨y10, ns, as, rfl, hnl, hal, hNum, D2, xx⟩
        rw [lrv] at hNum
        have x02 := own xx
        have hr2 := x02.seqT hr1
        have trv2 := trv.ex x02
        have w1 : (1 : Int) ≤ (rv.length : Int) + 1 := by omega
        refine ⟨.ref r, rfl, r, rv, rfl, .inr hr2, .ref r, rfl, r, rv, rfl, .inr hr2, _, 1, rfl, rfl, .ref d, rfl, .ref r, rfl, r, rv, rfl, .inr hr2, _, 1, rfl, rfl, d, _, rfl, D2, by omega, by omega, fun H3 v v0 v1 x3 D3 => ?_⟩
        refine ⟨.ref d, rfl, .ref r, rfl, r, rv, rfl, .inr (x3.seqT hr2), _, 1, rfl, rfl, d, _, rfl, D3, by omega, by omega, fun H4 u u0 u1 x4 D4 => ?_⟩
        have x24 : Ex [d] H2 H4 := x3.trans x4
        refine ⟨.ref r, rfl, r, rv, rfl, .inr (x24.seqT hr2), (by show 6 ≤ sizeLine; decide), fun ML nML => ?_⟩
        have xM : Ex [] H4 (upd H4 ML (.lst [.int rv.length, .int ((rv.length : Int) + 1), .int 0, .int v, .int u, .int rv.length])) := .new nML
        have hM : (upd H4 ML (.lst [.int rv.length, .int ((rv.length : Int) + 1), .int 0, .int v, .int u, .int rv.length])) ML = some (.lst [.int rv.length, .int ((rv.length : Int) + 1), .int 0, .int v, .int u, .int rv.length]) := upd_same
        have hnl4 := xM.lst (x24.lst hnl (by simpa using dn.symm))
        have hal4 := xM.lst (x24.lst hal (by simpa using da.symm))
        have hr4 := xM.seqT (x24.seqT hr2)
        have trv4 := (trv2.ex x24).ex xM
        refine ⟨ML, rfl, ⟨_, .of hM⟩, ?_⟩
        generalize upd H4 ML (.lst [.int rv.length, .int ((rv.length : Int) + 1), .int 0, .int v, .int u, .int rv.length]) = H5 at xM hM hnl4 hal4 hr4 trv4 ⊢
        have hml : ∀ x ∈ [V.int rv.length, .int ((rv.length : Int) + 1), .int 0, .int v, .int u, .int rv.length], ∃ m : Nat, x = .int m ∧ m ≤ 1000 := fun x mx => by
          simp only [List.mem_cons, List.not_mem_nil, or_false] at mx
          rcases mx with rfl | rfl | rfl | rfl | rfl | rfl
          · exact ⟨rv.length, rfl, by omega⟩
          · exact ⟨rv.length + 1, rfl, by omega⟩
          · exact ⟨0, rfl, by omega⟩
          · exact ⟨v.toNat, by rw [Int.toNat_of_nonneg v0], by omega⟩
          · exact ⟨u.toNat, by rw [Int.toNat_of_nonneg u0], by omega⟩
          · exact ⟨rv.length, rfl, by omega⟩
        have RO : RowOk ws ns (as.map V.int) bs Ws := ⟨hNum.ln, lw, fun W m => ⟨(hok W m).1, (hok W m).2.1⟩, fun i W hW hk => by
          obtain ⟨a, h1, h2, h3, h4⟩ := hNum.an i W (List.getElem?_eq_some_iff.mp hW).1 hW hk
          exact ⟨a, h1, by rw [List.getElem?_map, h2]; rfl, h3, h4⟩, lWs, hWs⟩
        have RD : RowD ws ns bs Ws := ⟨hNum.ln, lw, fun i W a hW ha => ⟨hok W (List.mem_of_getElem? hW), hNum.nm i W a (List.getElem?_eq_some_iff.mp hW).1 hW ha⟩, lWs, hWs, hbs⟩
        refine for_list (a := ML) (xs := [V.int rv.length, .int ((rv.length : Int) + 1), .int 0, .int v, .int u, .int rv.length]) (fun i σ H6 => ∃ y11 y12, σ = [z0, some (.ref d), z2, z3, some (.ref r), y5, y6, y7, some (.ref nl), some (.ref al), y10, y11, y12, none] ∧ Ex [] H5 H6) ?_ ?_ ?_ ?_
        · exact ⟨_, _, rfl, .refl⟩
        · rintro i σ H6 _ ⟨_, _, _, x6⟩
          exact .of (x6.lst hM)
        · rintro i x σ H6 hx ⟨y11, y12, rfl, x6⟩
          obtain ⟨m, rfl, hm⟩ := hml x (List.mem_of_getElem? hx)
          have hr6 := x6.seqT hr4
          have trv6 := trv4.ex x6
          refine ⟨l0, fun E1 nE => ⟨.ref r, rfl, l2, fun PR nPR => ?_⟩⟩
          have xE : Ex [] H6 (upd H6 E1 (.tup [])) := .new nE
          have xP : Ex [] (upd H6 E1 (.tup [])) (upd (upd H6 E1 (.tup [])) PR (.tup [.ref E1, .ref r])) := .new nPR
          have xEP := xE.trans xP
          refine ⟨.ref al, rfl, al, _, rfl, .inl ⟨.of (xEP.lst (x6.lst hal4)), fun AT nAT => ?_⟩⟩
          have xA : Ex [] (upd (upd H6 E1 (.tup [])) PR (.tup [.ref E1, .ref r])) (upd (upd (upd H6 E1 (.tup [])) PR (.tup [.ref E1, .ref r])) AT (.tup (as.map V.int))) := .new nAT
          have xEA := xEP.trans xA
          have tp : Tp K (upd (upd (upd H6 E1 (.tup [])) PR (.tup [.ref E1, .ref r])) AT (.tup (as.map V.int))) (.ref PR) (pgD ws) := .tup (.of (xA.tup upd_same)) (.cons (.tup (.of (xA.tup (xP.tup upd_same))) .nil) (.cons (.tup (xEA.seqT hr6) (trv6.ex xEA)) .nil))
          refine ⟨.int m, rfl, .ref PR, AT, m, ws, ns, as.map V.int, bs, Ws, rfl, tp, .of upd_same, RO, fun H7 fv x7 tf => ?_⟩
          have x67 := xEA.trans x7
          refine ⟨fv, rfl, fv, resD ws ns m, rfl, tf, fm_res ws ns m, fun H8 x8 => ⟨_, rfl, iteF ?_⟩⟩
          have x68 := x67.trans x8
          refine ⟨fv, rfl, .ref r, rfl, .ref nl, rfl, .int m, rfl, r, nl, m, rv, ws, ns, bs, Ws, rfl, x68.seqT hr6, trv6.ex x68, x68.lst (x6.lst hnl4), RD, hm, fun H9 dv x9 td => ?_⟩
          refine ⟨resD ws ns m, (tf.ex x8).ex x9, td, Nat.le_trans (fm_depth 4 _ (fm_res ws ns m)) (by decide), _, rfl, iteF ?_⟩
          exact ⟨_, _, rfl, x6.trans (x68.trans x9)⟩
        · rintro σ H6 ⟨y11, y12, rfl, x6⟩
          exact q H6
    refine ⟨.ref sc, rfl, sc, script, rfl, hS, fun H1 d nd x1 D1 => ?_⟩
    have dne : ∀ {H9 : Hp} {B : Addr}, Deck H9 d → H9 B = none → d ≠ B := fun ⟨c, s, zs, h, _⟩ n z => by rw [z, n] at h; cases h
    refine ⟨.ref d, rfl, d, 17, rfl, D1, by decide, by decide, fun H2 nm nms nnm x2 D2 hnm lnm hN ndn => ?_⟩
    have dnm : d ≠ nm := dne D1 nnm
    refine fun cs ncs => ?_
    have xc : Ex [] H2 (upd H2 cs (.dK [])) := .new ncs
    have dcs : d ≠ cs := dne D2 ncs
    refine ⟨.ref d, rfl, .ref nm, rfl, d, nm, nms, rfl, D2.ex xc (by simp), xc.lst hnm, dnm.symm, lnm, hN, ndn, fun H3 bl bs nbl x3 D3 hbl ndb lb1 lb2 hBx => ?_⟩
    have x23 : Ex [d] H2 H3 := (xc.mono (by simp)).trans x3
    have hcs3 : H3 cs = some (.dK []) := x3.a cs _ (by simpa using dcs.symm) upd_same (fun _ z => by cases z)
    have hnm3 := x23.lst hnm (by simpa using dnm.symm)
    have dbl : d ≠ bl := dne (D2.ex xc (by simp)) nbl
    refine ⟨.ref nm, rfl, 6, rfl, 9, rfl, nm, _, rfl, .of hnm3, fun p1 np1 => ?_⟩
    rw [show (6 : Int) = ((6 : Nat) : Int) from rfl, show (9 : Int) = ((9 : Nat) : Int) from rfl, cut_ft 6 9 (by decide) (by rw [List.length_map]; omega), ← List.map_drop, ← List.map_take]
    have xp1 : Ex [] H3 (upd H3 p1 (.lst (((nms.drop 6).take 3).map V.str))) := .new np1
    refine ⟨.ref nm, rfl, 3, rfl, nm, _, rfl, .of (xp1.lst hnm3), fun p2 np2 => ?_⟩
    rw [show (3 : Int) = ((3 : Nat) : Int) from rfl, cut_to, ← List.map_take]
    have xp2 : Ex [] (upd H3 p1 (.lst (((nms.drop 6).take 3).map V.str))) (upd (upd H3 p1 (.lst (((nms.drop 6).take 3).map V.str))) p2 (.lst ((nms.take 3).map V.str))) := .new np2
    refine ⟨p1, p2, _, _, rfl, rfl, xp2.lst upd_same, upd_same, ?_, fun wl nwl => ?_⟩
    · rw [List.length_map, List.length_map, List.length_take, List.length_take, List.length_drop, sizeLine_eq]; omega
    rw [← List.map_append]
    have hWs : ∀ s ∈ (nms.drop 6).take 3 ++ nms.take 3, NmG s := fun s m => by
      rcases List.mem_append.mp m with m | m
      · exact hN s (List.mem_of_mem_drop (List.mem_of_mem_take m))
      · exact hN s (List.mem_of_mem_take m)
    have lWs : ((nms.drop 6).take 3 ++ nms.take 3).length = 6 := by
      rw [List.length_append, List.length_take, List.length_take, List.length_drop]; omega
    have xp3 : Ex [] (upd (upd H3 p1 (.lst (((nms.drop 6).take 3).map V.str))) p2 (.lst ((nms.take 3).map V.str))) (upd (upd (upd H3 p1 (.lst (((nms.drop 6).take 3).map V.str))) p2 (.lst ((nms.take 3).map V.str))) wl (.lst (((nms.drop 6).take 3 ++ nms.take 3).map V.str))) := .new nwl
    have x34 := (xp1.trans xp2).trans xp3
    have hwl4 : (upd (upd (upd H3 p1 (.lst (((nms.drop 6).take 3).map V.str))) p2 (.lst ((nms.take 3).map V.str))) wl (.lst (((nms.drop 6).take 3 ++ nms.take 3).map V.str))) wl = some (.lst (((nms.drop 6).take 3 ++ nms.take 3).map V.str)) := upd_same
    have dwl : d ≠ wl := dne (D3.ex (xp1.trans xp2) (by simp)) nwl
    generalize (nms.drop 6).take 3 ++ nms.take 3 = Ws at hWs lWs hwl4 x34 ⊢
    generalize upd (upd (upd H3 p1 (.lst (((nms.drop 6).take 3).map V.str))) p2 (.lst ((nms.take 3).map V.str))) wl (.lst (Ws.map V.str)) = H4 at hwl4 x34 ⊢
    have hcs4 : H4 cs = some (.dK []) := x34.a cs _ (by simp) hcs3 (fun _ z => by cases z)
    have hbl4 := x34.lst hbl
    have D4 := D3.ex x34 (by simp)
    refine ⟨hcs4, [(Sum.inr kB, .ref bl), (Sum.inr kWs, .ref wl)], rfl, (by show 2 ≤ 15; decide), ?_⟩
    rw [two_keys]
    have x5 : Ex [cs] H4 (upd H4 cs (.dK [(Sum.inr kB, .ref bl), (Sum.inr kWs, .ref wl)])) := .put hcs4 (fun _ z => by cases z) (by simp)
    have blc : bl ≠ cs := ne_of hbl4 hcs4 (by intro z; cases z)
    have wlc : wl ≠ cs := ne_of hwl4 hcs4 (by intro z; cases z)
    have C5 : CaseH (upd H4 cs (.dK [(Sum.inr kB, .ref bl), (Sum.inr kWs, .ref wl)])) cs bl wl bs Ws := ⟨upd_same, x5.lst hbl4 (by simpa using blc), x5.lst hwl4 (by simpa using wlc)⟩
    have D5 := D4.ex x5 (by simpa using dcs)
    generalize upd H4 cs (.dK [(Sum.inr kB, .ref bl), (Sum.inr kWs, .ref wl)]) = H5 at C5 D5 ⊢
    have strWs : ∀ s ∈ Ws, PyData.strOk s = true := fun s m => (hWs s m).box.ok
    have lenbs : ∀ b ∈ bs, b.length ≤ 1000 := fun b m => Nat.le_trans (hBx b m).len (by decide)
    -- the row
    refine ⟨.ref d, rfl, d, 10, rfl, D5, by decide, by decide, fun H6 v v0 v1 x6 D6 => ?_⟩
    refine ⟨.ref d, rfl, d, 41, rfl, D6, by decide, by decide, fun H7 u u0 u1 x7 D7 => ⟨l2, fun L nL => ?_⟩⟩
    have xL : Ex [] H7 (upd H7 L (.lst [.int v, .int u])) := .new nL
    have dL : d ≠ L := dne D7 nL
    refine ⟨.ref d, rfl, d, 2, rfl, D7.ex xL (by simp), by decide, by decide, fun H8 t t0 t1 x8 D8 => ?_⟩
    have hL8 := x8.lst (upd_same (H := H7) (a := L) (o := .lst [.int v, .int u])) (by simpa using dL.symm)
    obtain ⟨e, me, ae, _⟩ := mem_at3 (xs := [V.int v, .int u]) t0 t1
    obtain ⟨c, rfl, c0, c1⟩ : ∃ c : Nat, e = .int c ∧ 0 ≤ c ∧ c ≤ 40 := by
      simp only [List.mem_cons, List.not_mem_nil, or_false] at me
      rcases me with rfl | rfl
      · exact ⟨v.toNat, by rw [Int.toNat_of_nonneg v0], Nat.zero_le _, by omega⟩
      · exact ⟨u.toNat, by rw [Int.toNat_of_nonneg u0], Nat.zero_le _, by omega⟩
    have x58 : Ex [d] H5 H8 := ((x6.trans x7).trans (xL.mono (by simp))).trans x8
    refine ⟨L, _, t, _, rfl, rfl, .of hL8, ae, c, rfl, by omega, by omega, fun D nD => ?_⟩
    have dD : d ≠ D := dne D8 nD
    have nD5 : H5 D = none := x58.f _ nD
    refine lc_range (lo := 0) (n := (c : Int).toNat) (fun i H9 => ∃ (vs : List V) (ws : List Wo), H9 D = some (.lst vs) ∧ TpAll K H9 vs (ws.map wD) ∧ (∀ W ∈ ws, okP bs Ws W) ∧ ws.length = i ∧ Deck H9 d ∧ Ex [d] H5 H9) ?_ ?_ ?_
    · exact ⟨[], [], upd_same, .nil, by simp, rfl, D8.ex (.new nD (xs := [])) (by simp), x58.trans (.new nD)⟩
    · rintro i H9 hi ⟨vs, ws, hD9, tv, hok, lws, D9, x9⟩
      have C9 := C5.ex x9 (by simpa using dcs.symm) (by simpa using dbl.symm) (by simpa using dwl.symm)
      refine ⟨rfl, .ref d, rfl, .ref cs, rfl, d, cs, bl, wl, bs, Ws, rfl, D9, C9, dbl.symm, dwl.symm, ndb, by omega, lb2, hBx, by omega, by omega, fun H10 wv W x10 D10 tw okw => ?_⟩
      have hD10 := x10.lst hD9 (by simpa using dD.symm)
      have lvs : vs.length = i := by have := tv.len; rw [List.length_map, lws] at this; exact this
      have x11 : Ex [D] H10 (upd H10 D (.lst (vs ++ [wv]))) := .put hD10 nt_lst (by simp)
      refine ⟨vs, hD10, by rw [sizeLine_eq]; omega, vs ++ [wv], ws ++ [W], upd_same, ?_, fun W' m => ?_, by rw [List.length_append, lws]; rfl, D10.ex x11 (by simpa using dD), Ex.own nD5 (x9.trans x10) (x11.mono (by simp))⟩
      · rw [List.map_append]
        exact ((tv.ex x10).ex x11).app (.cons (tw.ex x11) .nil)
      · rcases List.mem_append.mp m with m | m
        · exact hok W' m
        · rw [List.mem_singleton.mp m]; exact okw
    · rintro H9 ⟨vs, ws, hD9, tv, hok, lws, D9, x9⟩
      have lws2 : ws.length ≤ 40 := by rw [lws]; show c ≤ 40; exact c1
      refine ⟨D, vs, rfl, .inl ⟨.of hD9, fun r nr => ?_⟩⟩
      have xr : Ex [] H9 (upd H9 r (.tup vs)) := .new nr
      have hr0 : SqT K (upd H9 r (.tup vs)) r vs := .of upd_same
      have tv0 := tv.ex xr
      have x5r : Ex [d] H5 (upd H9 r (.tup vs)) := x9.trans (xr.mono (by simp))
      have D10 := D9.ex xr (by simp)
      generalize upd H9 r (.tup vs) = H10 at hr0 tv0 x5r D10 ⊢
      refine ⟨.ref d, rfl, d, 4, rfl, D10, by decide, by decide, fun H11 b b0 b1 x11 D11 => ⟨rfl, _, rfl, ?_⟩⟩
      have x511 := x5r.trans x11
      have C11 := C5.ex x511 (by simpa using dcs.symm) (by simpa using dbl.symm) (by simpa using dwl.symm)
      have hr11 := x11.seqT hr0
      have tv11 := tv0.ex x11
      refine ite2 (fun e => ?_) fun e => ?_
      · obtain ⟨bx, by', br, rfl⟩ : ∃ bx by' br, bs = bx :: by' :: br := by
          match bs, lb1 with
          | bx :: by' :: br, _ => exact ⟨bx, by', br, rfl⟩
        refine ⟨.ref cs, rfl, cs, _, rfl, C11.gb, 2, rfl, bl, _, rfl, .of C11.b, fun p np => ?_⟩
        rw [show (2 : Int) = ((2 : Nat) : Int) from rfl, cut_to, show ((bx :: by' :: br).map V.str).take 2 = [.str bx, .str by'] from rfl]
        have xp : Ex [] H11 (upd H11 p (.lst [.str bx, .str by'])) := .new np
        have C12 := C11.ex xp (by simp) (by simp) (by simp)
        refine ⟨p, _, rfl, .of upd_same, rfl, _, _, rfl, _, _, rfl, rfl, ?_⟩
        generalize upd H11 p (.lst [.str bx, .str by']) = H12 at xp C12 ⊢
        refine ⟨.ref cs, rfl, cs, _, rfl, C12.gw, wl, rfl, ⟨_, .of C12.w⟩, for_list (a := wl) (xs := Ws.map V.str) (fun i σ H13 => ∃ (y7 : Option V) (r' : Addr) (rv' : List V) (ws' : List Wo), σ = [some (.ref sc), some (.ref d), some (.ref nm), some (.ref cs), some (.ref r'), some (.str bx), some (.str by'), y7, none, none, none, none, none, none] ∧ SqT K H13 r' rv' ∧ TpAll K H13 rv' (ws'.map wD) ∧ (∀ W ∈ ws', okP (bx :: by' :: br) Ws W) ∧ ws'.length = ws.length + 2 * i ∧ Ex [] H12 H13) ?_ ?_ ?_ ?_⟩
        · exact ⟨_, r, vs, ws, rfl, xp.seqT hr11, tv11.ex xp, hok, rfl, .refl⟩
        · rintro i σ H13 _ ⟨_, _, _, _, _, _, _, _, _, x13⟩
          exact .of (x13.lst C12.w)
        · rintro i x σ H13 hx ⟨y7, r', rv', ws', rfl, hr', tv', hok', lw', x13⟩
          rw [List.getElem?_map] at hx
          cases hWi : Ws[i]? with
          | none => rw [hWi] at hx; cases hx
          | some wth =>
            rw [hWi] at hx
            cases hx
            have mw : wth ∈ Ws := List.mem_of_getElem? hWi
            have il : i < Ws.length := (List.getElem?_eq_some_iff.mp hWi).1
            refine ⟨.str by', rfl, .str wth, rfl, l3, fun T1 n1 => ⟨.str bx, rfl, .str bx, rfl, .str by', rfl, (by show 4 ≤ sizeLine; decide), fun T2 n2 => ⟨l2, fun T3 n3 => ⟨.ref r', rfl, ?_⟩⟩⟩⟩
            have z1 : Ex [] H13 (upd H13 T1 (.tup [.str (Str.ofString "take"), .str by', .str wth])) := .new n1
            have z2 : Ex [] (upd H13 T1 (.tup [.str (Str.ofString "take"), .str by', .str wth])) (upd (upd H13 T1 (.tup [.str (Str.ofString "take"), .str by', .str wth])) T2 (.tup [.str (Str.ofString "mix"), .str bx, .str bx, .str by'])) := .new n2
            have z3 : Ex [] (upd (upd H13 T1 (.tup [.str (Str.ofString "take"), .str by', .str wth])) T2 (.tup [.str (Str.ofString "mix"), .str bx, .str bx, .str by'])) (upd (upd (upd H13 T1 (.tup [.str (Str.ofString "take"), .str by', .str wth])) T2 (.tup [.str (Str.ofString "mix"), .str bx, .str bx, .str by'])) T3 (.tup [.ref T1, .ref T2])) := .new n3
            have zz := (z1.trans z2).trans z3
            refine tp_cat (K := K) (ds := [wD (.take by' wth), wD (.mix bx bx by')]) (es := ws'.map wD) (.of upd_same) (zz.seqT hr') (.cons (.tup (.of (z3.tup (z2.tup upd_same))) (.cons (.str _) (.cons (.str _) (.cons (.str _) .nil)))) (.cons (.tup (.of (z3.tup upd_same)) (.cons (.str _) (.cons (.str _) (.cons (.str _) (.cons (.str _) .nil))))) .nil)) (tv'.ex zz) (by rw [List.length_map]; show 2 + ws'.length ≤ 1000; omega) fun p6 H14 zs x14 hs14 ht14 => ?_
            refine ⟨_, p6, zs, .take by' wth :: .mix bx bx by' :: ws', rfl, hs14, ht14, fun W m => ?_, by rw [List.length_cons, List.length_cons, lw']; omega, x13.trans (zz.trans x14)⟩
            rcases List.mem_cons.mp m with rfl | m
            · exact ⟨rfl, ⟨by simp, mw⟩, trivial⟩
            · rcases List.mem_cons.mp m with rfl | m
              · exact ⟨rfl, (by show bx ∈ _; simp), trivial⟩
              · exact hok' W m
        · rintro σ H13 ⟨y7, r', rv', ws', rfl, hr', tv', hok', lw', x13⟩
          rw [List.length_map] at lw'
          exact ⟨_, _, _, _, _, _, d, r', rv', ws', bx :: by' :: br, Ws, rfl, (D11.ex xp (by simp)).ex x13 (by simp), hr', tv', hok', by omega, by omega, strWs, lenbs, fun H' => q H'⟩
      · exact ⟨_, _, _, _, _, _, d, r, vs, ws, bs, Ws, rfl, D11, hr11, tv11, hok, by omega, by omega, strWs, lenbs, fun H' => q H'⟩
end
end K10

set_option maxHeartbeats 4000000
namespace Kk
open PySem PySem.Spec PyProof.Rows L2
/-- the end of a law; what the top has told is handed on -/
theorem walkT {l : PySem.W.OpenLaw} {m lev : Nat} {q : Program} {loose : List Str} {XP : (Str → Option Value) → Heap → Prop} {YP : World → Heap → Prop} {dr : DefRec} {K : Params → PySem.W.Frag} {x : Str}
    (most : l.most = some m) (small : m ≤ sizeLine) (nodef : dr.params.defaults = []) (room : Room lev callerA) (written : ∀ (w : World) (h : Heap), YP w h → (K w.params).In h)
    (F : ∀ (w : World) (mg mb : Str → Option Value) (mean : ExcName → Option Value) (fa : Addr) (h : Heap), (K w.params).In h → PyProof.Rows.Top q (PySem.W.looseW q loose) mean mg mb h → mg dr.name = some (.ref fa) →
      LamX.LawAtS l w (K w.params) CX0 lev m x mg fa h) :
    PySem.W.WalkO q loose XP YP l.row.toRowW dr [] (fun f vs => PySem.call f vs) := by
  refine Att.attach_callB most nodef fun w s0 s1 mg mb fa o pm cd doc a vs ns gr Y ho hd hcd hmg hobj hin hlen hbits hgens => ?_
  have inK := written w _ Y
  obtain ⟨fd, tabs, sp, tAt, tOut, tHd, bind, prom, ok⟩ := F w mg mb _ fa _ inK gr.T hmg
  refine LamX.law_callTs inK gr.T.g gr.T.b gr.T.builtins gr.T.nolimit hgens tAt tOut tHd gr.T.bmain hobj hin (Nat.le_trans hlen small) room ok bind ?_ ?_
  · exact fun H hH hS => prom H a ns hlen hbits hH hS
  · exact fun H e s' z => z
end Kk
namespace K10
open PySem PySem.Spec PyProof.Rows L2 Kk RZ
/-- where a def stands -/
structure AtN (K : PySem.W.Frag) (x : Str) (st : Stmt) (f : Addr) (fd : FuncData) : Prop where
  a : PySem.W.nsIn K mainGlobals x = some (some (.ref f))
  F : Fun K x x st f fd
theorem at_mk {K : PySem.W.Frag} {x : Str} {st : Stmt} {f : Addr} {oc : Value} {od an : Option Addr} {sl : Array (Option Value)} {kV doc pm cd ct : Value} (a : PySem.W.nsIn K mainGlobals x = some (some (.ref f)))
    (l : K.lookup f = some ⟨oc, od, .func (PySem.W.fnOf x x (defArgs st) (defBody st) (defScope st) .none kV doc pm an cd ct), sl⟩) (c : PySem.W.codeIn K cd x = true) (k : PySem.W.keepIn K (.ref f) = true) :
    AtN K x st f (PySem.W.fnOf x x (defArgs st) (defBody st) (defScope st) .none kV doc pm an cd ct) := ⟨a, fun_mk l c k⟩
/-- where a def of a class stands -/
structure AtM (K : PySem.W.Frag) (C : Addr) (m x : Str) (st : Stmt) (f : Addr) (fd : FuncData) : Prop where
  a : PySem.W.findIn K (.ref C) m = some (some (.ref f))
  i : PySem.W.isFn K (.ref f) = true
  k : PySem.W.keepIn K (.ref f) = true
  F : Fun K m x st f fd
theorem atM_mk {K : PySem.W.Frag} {C : Addr} {m x : Str} {st : Stmt} {f : Addr} {oc : Value} {od an : Option Addr} {sl : Array (Option Value)} {kV doc pm cd ct : Value} (a : PySem.W.findIn K (.ref C) m = some (some (.ref f))) (i : PySem.W.isFn K (.ref f) = true)
    (l : K.lookup f = some ⟨oc, od, .func (PySem.W.fnOf m x (defArgs st) (defBody st) (defScope st) .none kV doc pm an cd ct), sl⟩) (c : PySem.W.codeIn K cd x = true) (k : PySem.W.keepIn K (.ref f) = true) :
    AtM K C m x st f (PySem.W.fnOf m x (defArgs st) (defBody st) (defScope st) .none kV doc pm an cd ct) := ⟨a, i, k, fun_mk l c k⟩
/-- where a class stands -/
structure AtC (K : PySem.W.Frag) (x : Str) (C : Addr) : Prop where
  a : PySem.W.nsIn K mainGlobals x = some (some (.ref C))
  pg : PySem.W.plainGet K C Str.empty = true
  hd : PySem.W.hasDictIn K C = true
  po : PySem.W.plainOver K C = true
  sa : PySem.W.findIn K (.ref C) "__setattr__" = some (some (.builtin "object.__setattr__"))
  ms : PySem.W.makesIn K C = true
  kc : PySem.W.keepIn K (.ref C) = true
theorem atC_mk {K : PySem.W.Frag} {x : Str} {C : Addr} (a : PySem.W.nsIn K mainGlobals x = some (some (.ref C))) (pg : PySem.W.plainGet K C Str.empty = true) (hd : PySem.W.hasDictIn K C = true) (po : PySem.W.plainOver K C = true) (sa : PySem.W.findIn K (.ref C) "__setattr__" = some (some (.builtin "object.__setattr__"))) (mk : PySem.W.makesIn K C = true) (kc : PySem.W.keepIn K (.ref C) = true) : AtC K x C := ⟨a, pg, hd, po, sa, mk, kc⟩
/-- a tuple of the written part -/
def TuA (K : PySem.W.Frag) (t : Addr) (vs : List V) : Prop := ∃ d its n sl, K.lookup t = some ⟨.type "tuple", d, .seq its n, sl⟩ ∧ its.size ≤ sizeLine ∧ Vals vs its.toList
theorem tuA_mk {K : PySem.W.Frag} {t : Addr} {vs : List V} {d : Option Addr} {its : Array Value} {n : Nat} {sl : Array (Option Value)} (l : K.lookup t = some ⟨.type "tuple", d, .seq its n, sl⟩) (z : its.size ≤ sizeLine) (v : Vals vs its.toList) : TuA K t vs := ⟨d, its, n, sl, l, z, v⟩
theorem TuA.sq {K : PySem.W.Frag} {t : Addr} {vs : List V} (h : TuA K t vs) (H : Hp) : SqT K H t vs := by
  obtain ⟨d, its, n, sl, l, z, v⟩ := h
  exact .inr ⟨_, its, n, l, rfl, rfl, z, v⟩
theorem all_mk {l : PySem.W.OpenLaw} {w : World} {K : PySem.W.Frag} {q : Program} {loose : List Str} {mean : ExcName → Option Value} {h : Heap} {mg mb : Str → Option Value} {fa fL pA nA eA CF CR : Addr} {f0 f1 f2 f3 f4 f5 f6 f7 f8 f9 f10 f11 f12 f13 f14 f15 f16 f17 f18 f19 f20 f21 f22 f23 f24 f25 f26 f27 f28 : Addr} {p0 p1 p2 p3 p4 p5 p6 p7 : Addr}
    {fd0 fd1 fd2 fd3 fd4 fd5 fd6 fd7 fd8 fd9 fd10 fd11 fd12 fd13 fd14 fd15 fd16 fd17 fd18 fd19 fd20 fd21 fd22 fd23 fd24 fd25 fd26 fd27 fd28 gd0 gd1 gd2 gd3 gd4 gd5 gd6 gd7 : FuncData} {ocL kVL docL pmL cdL ctL : Value} {odL anL : Option Addr} {slL : Array (Option Value)} {tk1 tk2 : Tok}
    (X : K.In h) (top : PyProof.Rows.Top q loose mean mg mb h) (hfa : mg "law" = some (.ref fa))
    (KCF : AtC K "Frame" CF) (nCF_place : PySem.W.findIn K (.ref CF) "place" = some none) (nCF_boxes : PySem.W.findIn K (.ref CF) "boxes" = some none)
    (KCR : AtC K "Run" CR) (nCR_program : PySem.W.findIn K (.ref CR) "program" = some none) (nCR_answers : PySem.W.findIn K (.ref CR) "answers" = some none) (nCR_wanted : PySem.W.findIn K (.ref CR) "wanted" = some none) (nCR_steps : PySem.W.findIn K (.ref CR) "steps" = some none) (nCR_told : PySem.W.findIn K (.ref CR) "told" = some none) (nCR_left : PySem.W.findIn K (.ref CR) "left" = some none) (nCR_ending : PySem.W.findIn K (.ref CR) "ending" = some none) (nCR_frames : PySem.W.findIn K (.ref CR) "frames" = some none)
    (B0 : AtM K CF "__init__" "Frame.__init__" s_finit p0 gd0)
    (B1 : AtM K CF "holds" "Frame.holds" s_holds p1 gd1)
    (B2 : AtM K CF "held" "Frame.held" s_held p2 gd2)
    (B3 : AtM K CR "__init__" "Run.__init__" s_rinit p3 gd3)
    (B4 : AtM K CR "word" "Run.word" s_word p4 gd4)
    (B5 : AtM K CR "lacks_answer" "Run.lacks_answer" s_lacks p5 gd5)
    (B6 : AtM K CR "next_answer" "Run.next_answer" s_next p6 gd6)
    (B7 : AtM K CR "leave" "Run.leave" s_leave p7 gd7)
    (A0 : AtN K "in_record" s_rec f0 fd0)
    (A1 : AtN K "is_whole" s_is_whole f1 fd1)
    (A2 : AtN K "row_of" s_row_of f2 fd2)
    (A3 : AtN K "row_around" s_around f3 fd3)
    (A4 : AtN K "word_at" s_wordat f4 fd4)
    (A5 : AtN K "behind" s_behind f5 fd5)
    (A6 : AtN K "first_place" s_first f6 fd6)
    (A7 : AtN K "head_of" s_head f7 fd7)
    (A8 : AtN K "choices_of" s_choices f8 fd8)
    (A9 : AtN K "leads_of" s_leads f9 fd9)
    (A10 : AtN K "empties" s_empties f10 fd10)
    (A11 : AtN K "put_by" s_put f11 fd11)
    (A12 : AtN K "do_boxes" s_do f12 fd12)
    (A13 : AtN K "do_plain" s_plain f13 fd13)
    (A14 : AtN K "do_back" s_back f14 fd14)
    (A15 : AtN K "do_ends" s_ends f15 fd15)
    (A16 : AtN K "do_step" s_step f16 fd16)
    (A17 : AtN K "run" s_run f17 fd17)
    (A18 : AtN K "_law_deck" s_deck f18 fd18)
    (A19 : AtN K "_law_draw" s_draw f19 fd19)
    (A20 : AtN K "_law_some" s_some f20 fd20)
    (A21 : AtN K "_law_names" s_names f21 fd21)
    (A22 : AtN K "_law_boxes" s_lboxes f22 fd22)
    (A23 : AtN K "_law_one_of" s_oneof f23 fd23)
    (A24 : AtN K "_law_picked" s_picked f24 fd24)
    (A25 : AtN K "_law_plain" s_lplain f25 fd25)
    (A26 : AtN K "_law_formed" s_formed f26 fd26)
    (A27 : AtN K "_law_done" s_done f27 fd27)
    (A28 : AtN K "_law_due" s_due f28 fd28)
    (aL : PySem.W.nsIn K mainGlobals "law" = some (some (.ref fL))) (lL : K.lookup fL = some ⟨ocL, odL, .func (PySem.W.fnOf "law" "law" (defArgs s_law) (defBody s_law) (defScope s_law) .none kVL docL pmL anL cdL ctL), slL⟩) (cL : PySem.W.codeIn K cdL "law" = true) (kL : PySem.W.keepIn K (.ref fL) = true)
    (gM : PySem.W.nsIn K mainGlobals "MOST_NUMBER" = some (some (.int 9999 tk1))) (gX : PySem.W.nsIn K mainGlobals "MIXED_BY" = some (some (.int 10007 tk2)))
    (gP : PySem.W.nsIn K mainGlobals "PUTTING" = some (some (.ref pA))) (tP : TuA K pA ([Str.ofString "take", Str.ofString "ask", Str.ofString "number", Str.ofString "copy", Str.ofString "mix", Str.ofString "open"].map V.str)) (gN : PySem.W.nsIn K mainGlobals "NOTHING" = some (some (.ref nA))) (tN : TuA K nA [.int 0, .ref eA]) (tE : TuA K eA [])
    (z0 : PySem.W.nsIn K mainGlobals "isinstance" = some none) (z1 : PySem.W.nsIn K mainGlobals "int" = some none) (z2 : PySem.W.nsIn K mainGlobals "bool" = some none) (z3 : PySem.W.nsIn K mainGlobals "str" = some none) (z4 : PySem.W.nsIn K mainGlobals "tuple" = some none) (z5 : PySem.W.nsIn K mainGlobals "sorted" = some none) (z6 : PySem.W.nsIn K mainGlobals "set" = some none) (z7 : PySem.W.nsIn K mainGlobals "list" = some none) (z8 : PySem.W.nsIn K mainGlobals "len" = some none) (z9 : PySem.W.nsIn K mainGlobals "range" = some none) (z10 : PySem.W.nsIn K mainGlobals "min" = some none) (z11 : PySem.W.nsIn K mainGlobals "sum" = some none) (z12 : PySem.W.nsIn K mainGlobals "enumerate" = some none) :
    LamX.LawAtS l w K CX0 8 63 "_law_script" mg fa h := by
  have G := top.g
  have e := hfa.symm.trans (PySem.W.mg_of X G aL)
  cases e
  have FL := fun_mk (st := s_law) lL cL kL
  refine ⟨PySem.W.fnOf "law" "law" (defArgs s_law) (defBody s_law) (defScope s_law) .none kVL docL pmL anL cdL ctL, [], spLaw K, ?_, ?_, ?_, fun s v => .of_eq rfl, ?_, fun base inB gls tabs => ?_⟩
  · intro p hp; cases hp
  · intro p hp; cases hp
  · intro p hp; cases hp
  · intro H a ns hl _ hH hS
    exact ⟨a, ns, rfl, hS, hl, fun _ => rfl⟩
  · have T : TF K mg CF := ⟨⟨KCF.pg, KCF.hd, KCF.po, KCF.sa⟩, nCF_place, nCF_boxes, PySem.W.mg_of X G KCF.a⟩
    have TRn : TR K mg CR := ⟨⟨KCR.pg, KCR.hd, KCR.po, KCR.sa⟩, nCR_program, nCR_answers, nCR_wanted, nCR_steps, nCR_told, nCR_left, nCR_ending, nCR_frames, PySem.W.mg_of X G KCR.a⟩
    have N : Nth K mg nA eA := ⟨PySem.W.mg_of X G gN, tN.sq, tE.sq⟩
    have m_isinstance := PySem.W.mg_none_of X G z0
    have m_int := PySem.W.mg_none_of X G z1
    have m_bool := PySem.W.mg_none_of X G z2
    have m_str := PySem.W.mg_none_of X G z3
    have m_tuple := PySem.W.mg_none_of X G z4
    have m_sorted := PySem.W.mg_none_of X G z5
    have m_set := PySem.W.mg_none_of X G z6
    have m_list := PySem.W.mg_none_of X G z7
    have m_len := PySem.W.mg_none_of X G z8
    have m_range := PySem.W.mg_none_of X G z9
    have m_min := PySem.W.mg_none_of X G z10
    have m_sum := PySem.W.mg_none_of X G z11
    have m_enumerate := PySem.W.mg_none_of X G z12
    have gb0 := B0.F.binds (ps := ["self", "place"]) fun _ _ _ _ _ _ us hl => match us, hl with | [_, _], _ => rfl
    have gb1 := B1.F.binds (ps := ["self", "box"]) fun _ _ _ _ _ _ us hl => match us, hl with | [_, _], _ => rfl
    have gb2 := B2.F.binds (ps := ["self"]) fun _ _ _ _ _ _ us hl => match us, hl with | [_], _ => rfl
    have gb3 := B3.F.binds (ps := ["self", "program", "answers"]) fun _ _ _ _ _ _ us hl => match us, hl with | [_, _, _], _ => rfl
    have gb4 := B4.F.binds (ps := ["self"]) fun _ _ _ _ _ _ us hl => match us, hl with | [_], _ => rfl
    have gb5 := B5.F.binds (ps := ["self"]) fun _ _ _ _ _ _ us hl => match us, hl with | [_], _ => rfl
    have gb6 := B6.F.binds (ps := ["self", "choices"]) fun _ _ _ _ _ _ us hl => match us, hl with | [_, _], _ => rfl
    have gb7 := B7.F.binds (ps := ["self", "frame", "boxes"]) fun _ _ _ _ _ _ us hl => match us, hl with | [_, _, _], _ => rfl
    have g0 := PySem.W.mg_of X G A0.a
    have b0 := A0.F.binds (ps := ["box", "name"]) fun _ _ _ _ _ _ us hl => match us, hl with | [_, _], _ => rfl
    have g1 := PySem.W.mg_of X G A1.a
    have b1 := A1.F.binds (ps := ["thing"]) fun _ _ _ _ _ _ us hl => match us, hl with | [_], _ => rfl
    have g2 := PySem.W.mg_of X G A2.a
    have b2 := A2.F.binds (ps := ["program", "name"]) fun _ _ _ _ _ _ us hl => match us, hl with | [_, _], _ => rfl
    have g3 := PySem.W.mg_of X G A3.a
    have b3 := A3.F.binds (ps := ["program", "place"]) fun _ _ _ _ _ _ us hl => match us, hl with | [_, _], _ => rfl
    have g4 := PySem.W.mg_of X G A4.a
    have b4 := A4.F.binds (ps := ["program", "place"]) fun _ _ _ _ _ _ us hl => match us, hl with | [_, _], _ => rfl
    have g5 := PySem.W.mg_of X G A5.a
    have b5 := A5.F.binds (ps := ["program", "place"]) fun _ _ _ _ _ _ us hl => match us, hl with | [_, _], _ => rfl
    have g6 := PySem.W.mg_of X G A6.a
    have b6 := A6.F.binds (ps := ["program", "name"]) fun _ _ _ _ _ _ us hl => match us, hl with | [_, _], _ => rfl
    have g7 := PySem.W.mg_of X G A7.a
    have b7 := A7.F.binds (ps := ["program", "name"]) fun _ _ _ _ _ _ us hl => match us, hl with | [_, _], _ => rfl
    have g8 := PySem.W.mg_of X G A8.a
    have b8 := A8.F.binds (ps := ["word"]) fun _ _ _ _ _ _ us hl => match us, hl with | [_], _ => rfl
    have g9 := PySem.W.mg_of X G A9.a
    have b9 := A9.F.binds (ps := ["program", "place"]) fun _ _ _ _ _ _ us hl => match us, hl with | [_, _], _ => rfl
    have g10 := PySem.W.mg_of X G A10.a
    have b10 := A10.F.binds (ps := ["word", "box"]) fun _ _ _ _ _ _ us hl => match us, hl with | [_, _], _ => rfl
    have g11 := PySem.W.mg_of X G A11.a
    have b11 := A11.F.binds (ps := ["word", "frame", "answer"]) fun _ _ _ _ _ _ us hl => match us, hl with | [_, _, _], _ => rfl
    have g12 := PySem.W.mg_of X G A12.a
    have b12 := A12.F.binds (ps := ["now", "frame", "word", "answer"]) fun _ _ _ _ _ _ us hl => match us, hl with | [_, _, _, _], _ => rfl
    have g13 := PySem.W.mg_of X G A13.a
    have b13 := A13.F.binds (ps := ["now", "word", "answer"]) fun _ _ _ _ _ _ us hl => match us, hl with | [_, _, _], _ => rfl
    have g14 := PySem.W.mg_of X G A14.a
    have b14 := A14.F.binds (ps := ["now"]) fun _ _ _ _ _ _ us hl => match us, hl with | [_], _ => rfl
    have g15 := PySem.W.mg_of X G A15.a
    have b15 := A15.F.binds (ps := ["now"]) fun _ _ _ _ _ _ us hl => match us, hl with | [_], _ => rfl
    have g16 := PySem.W.mg_of X G A16.a
    have b16 := A16.F.binds (ps := ["now"]) fun _ _ _ _ _ _ us hl => match us, hl with | [_], _ => rfl
    have g17 := PySem.W.mg_of X G A17.a
    have b17 := A17.F.binds (ps := ["program", "answers", "most"]) fun _ _ _ _ _ _ us hl => match us, hl with | [_, _, _], _ => rfl
    have g18 := PySem.W.mg_of X G A18.a
    have b18 := A18.F.binds (ps := ["_law_script"]) fun _ _ _ _ _ _ us hl => match us, hl with | [_], _ => rfl
    have g19 := PySem.W.mg_of X G A19.a
    have b19 := A19.F.binds (ps := ["_law_deck_here", "_law_most"]) fun _ _ _ _ _ _ us hl => match us, hl with | [_, _], _ => rfl
    have g20 := PySem.W.mg_of X G A20.a
    have b20 := A20.F.binds (ps := ["_law_deck_here", "_law_few", "_law_most"]) fun _ _ _ _ _ _ us hl => match us, hl with | [_, _, _], _ => rfl
    have g21 := PySem.W.mg_of X G A21.a
    have b21 := A21.F.binds (ps := ["_law_deck_here", "_law_many"]) fun _ _ _ _ _ _ us hl => match us, hl with | [_, _], _ => rfl
    have g22 := PySem.W.mg_of X G A22.a
    have b22 := A22.F.binds (ps := ["_law_deck_here", "_law_names_here"]) fun _ _ _ _ _ _ us hl => match us, hl with | [_, _], _ => rfl
    have g23 := PySem.W.mg_of X G A23.a
    have b23 := A23.F.binds (ps := ["_law_deck_here", "_law_some_here"]) fun _ _ _ _ _ _ us hl => match us, hl with | [_, _], _ => rfl
    have g24 := PySem.W.mg_of X G A24.a
    have b24 := A24.F.binds (ps := ["_law_deck_here", "_law_some_here", "_law_many"]) fun _ _ _ _ _ _ us hl => match us, hl with | [_, _, _], _ => rfl
    have g25 := PySem.W.mg_of X G A25.a
    have b25 := A25.F.binds (ps := ["_law_deck_here", "_law_case"]) fun _ _ _ _ _ _ us hl => match us, hl with | [_, _], _ => rfl
    have g26 := PySem.W.mg_of X G A26.a
    have b26 := A26.F.binds (ps := ["_law_found"]) fun _ _ _ _ _ _ us hl => match us, hl with | [_], _ => rfl
    have g27 := PySem.W.mg_of X G A27.a
    have b27 := A27.F.binds (ps := ["_law_things", "_law_word", "_law_number"]) fun _ _ _ _ _ _ us hl => match us, hl with | [_, _, _], _ => rfl
    have g28 := PySem.W.mg_of X G A28.a
    have b28 := A28.F.binds (ps := ["_law_row", "_law_numbers", "_law_most"]) fun _ _ _ _ _ _ us hl => match us, hl with | [_, _, _], _ => rfl
    have o_rec : FnOk l.prog w K mg base CX0 1 f0 fd0 ["box", "name"] spRec := ok_rec A0.F
    have o_whole : FnOk l.prog w K mg base CX0 1 f1 fd1 ["thing"] spWholeI := ok_is_whole A1.F m_isinstance m_int m_bool
    have o_first : FnOk l.prog w K mg base CX0 1 f6 fd6 ["program", "name"] spFirst := ok_first A6.F
    have o_ch : FnOk l.prog w K mg base CX0 1 f8 fd8 ["word"] (spChoices K) := ok_choices A8.F ⟨_, PySem.W.mg_of X G gM⟩
    have o_ro : FnOk l.prog w K mg base CX0 1 f2 fd2 ["program", "name"] (spRowOf K) := ok_row_of A2.F
    have o_head : FnOk l.prog w K mg base CX0 1 f7 fd7 ["program", "name"] spHead := ok_head A7.F
    have o_ar : FnOk l.prog w K mg base CX0 2 f3 fd3 ["program", "place"] (spAround K) := ok_around A3.F ⟨o_ro.mono (by decide), A2.F.kp, b2, g2⟩ m_len m_range
    have o_wa : FnOk l.prog w K mg base CX0 3 f4 fd4 ["program", "place"] (spWordAt K) := ok_wordat A4.F ⟨o_ar.mono (by decide), A3.F.kp, b3, g3⟩ m_len
    have o_be : FnOk l.prog w K mg base CX0 3 f5 fd5 ["program", "place"] (spBehind K) := ok_behind A5.F ⟨o_ar.mono (by decide), A3.F.kp, b3, g3⟩ m_len
    have o_le : FnOk l.prog w K mg base CX0 4 f9 fd9 ["program", "place"] (spLeads K) := ok_leads A9.F ⟨o_wa.mono (by decide), A4.F.kp, b4, g4⟩ ⟨o_ch.mono (by decide), A8.F.kp, b8, g8⟩ ⟨o_be.mono (by decide), A5.F.kp, b5, g5⟩
    have o_em : FnOk l.prog w K mg base CX0 2 f10 fd10 ["word", "box"] (spEmpties K) := ok_empties A10.F ⟨o_rec.mono (by decide), A0.F.kp, b0, g0⟩
    have o_fi : FnOk l.prog w K mg base CX0 1 p0 gd0 ["self", "place"] (spFInit CF) := ok_finit B0.F T
    have o_ho : FnOk l.prog w K mg base CX0 1 p1 gd1 ["self", "box"] (spHolds K CF) := ok_holds B1.F T N
    have o_hd : FnOk l.prog w K mg base CX0 1 p2 gd2 ["self"] (spHeld K CF) := ok_held B2.F T N m_sorted m_list m_tuple
    have o_lv : FnOk l.prog w K mg base CX0 2 p7 gd7 ["self", "frame", "boxes"] (spLeave K CF CR) := ok_leave B7.F T o_ho ⟨B1.a, B1.i, B1.k⟩ gb1 TRn.cl TRn.n5 m_sorted m_len
    have o_put : FnOk l.prog w K mg base CX0 2 f11 fd11 ["word", "frame", "answer"] (spPut K CF) := ok_put A11.F T o_ho ⟨B1.a, B1.i, B1.k⟩ gb1 ⟨_, PySem.W.mg_of X G gX⟩ m_tuple m_sorted m_set
    have o_do : FnOk l.prog w K mg base CX0 3 f12 fd12 ["now", "frame", "word", "answer"] (spDo K CF CR) := ok_do A12.F T N (o_ho.mono (by decide)) ⟨B1.a, B1.i, B1.k⟩ gb1 o_lv ⟨B7.a, B7.i, B7.k⟩ gb7 ⟨o_put.mono (by decide), A11.F.kp, b11, g11⟩ ⟨o_em.mono (by decide), A10.F.kp, b10, g10⟩ TRn.cl TRn.n4 (PySem.W.mg_of X G gP) tP.sq m_list
    have o_pl : FnOk l.prog w K mg base CX0 5 f13 fd13 ["now", "word", "answer"] (spPlain K CF CR) := ok_plain A13.F TRn T ⟨o_do.mono (by decide), A12.F.kp, b12, g12⟩ ⟨o_le.mono (by decide), A9.F.kp, b9, g9⟩
    have o_ri : FnOk l.prog w K mg base CX0 3 p3 gd3 ["self", "program", "answers"] (spRInit K CF CR) := ok_rinit (k := 1) B3.F TRn T ⟨KCF.ms, B0.a, B0.i, KCF.kc⟩ o_fi gb0 ⟨o_first.mono (by decide), A6.F.kp, b6, g6⟩
    have o_wd : FnOk l.prog w K mg base CX0 4 p4 gd4 ["self"] (spWord K CF CR) := ok_rword B4.F TRn T ⟨o_wa.mono (by decide), A4.F.kp, b4, g4⟩
    have o_lk : FnOk l.prog w K mg base CX0 5 p5 gd5 ["self"] (spLacks K CF CR) := ok_lacks B5.F TRn T o_wd ⟨B4.a, B4.i, B4.k⟩ gb4 ⟨o_ch.mono (by decide), A8.F.kp, b8, g8⟩ m_len
    have o_nx : FnOk l.prog w K mg base CX0 2 p6 gd6 ["self", "choices"] (spNext K CR) := ok_next B6.F TRn ⟨o_whole.mono (by decide), A1.F.kp, b1, g1⟩ m_len
    have o_bk : FnOk l.prog w K mg base CX0 3 f14 fd14 ["now"] (spBack K CF CR) := ok_back A14.F TRn T ⟨o_head.mono (by decide), A7.F.kp, b7, g7⟩ o_lv ⟨B7.a, B7.i, B7.k⟩ gb7 m_list m_len
    have o_en : FnOk l.prog w K mg base CX0 5 f15 fd15 ["now"] (spEnds K CF CR) := ok_ends A15.F TRn o_wd ⟨B4.a, B4.i, B4.k⟩ gb4 ⟨o_bk.mono (by decide), A14.F.kp, b14, g14⟩
    have o_st : FnOk l.prog w K mg base CX0 6 f16 fd16 ["now"] (spStep K CF CR) := ok_step A16.F TRn (o_wd.mono (by decide)) ⟨B4.a, B4.i, B4.k⟩ gb4 (o_nx.mono (by decide)) ⟨B6.a, B6.i, B6.k⟩ gb6 ⟨o_ch.mono (by decide), A8.F.kp, b8, g8⟩ ⟨o_pl.mono (by decide), A13.F.kp, b13, g13⟩ ⟨o_en.mono (by decide), A15.F.kp, b15, g15⟩
    have o_run : FnOk l.prog w K mg base CX0 7 f17 fd17 ["program", "answers", "most"] (spRun K) := ok_run (k := 5) A17.F TRn T ⟨KCR.ms, B3.a, B3.i, KCR.kc⟩ (o_ri.mono (by decide)) gb3 (o_lk.mono (by decide)) ⟨B5.a, B5.i, B5.k⟩ gb5 (o_hd.mono (by decide)) ⟨B2.a, B2.i, B2.k⟩ gb2 ⟨o_en.mono (by decide), A15.F.kp, b15, g15⟩ ⟨o_st.mono (by decide), A16.F.kp, b16, g16⟩ m_tuple
    have o_deck : FnOk l.prog w K mg base CX0 1 f18 fd18 ["_law_script"] (spDeck K) := ok_deck A18.F m_list m_sum m_enumerate
    have o_draw : FnOk l.prog w K mg base CX0 1 f19 fd19 ["_law_deck_here", "_law_most"] spDraw := ok_draw A19.F m_len
    have o_some : FnOk l.prog w K mg base CX0 2 f20 fd20 ["_law_deck_here", "_law_few", "_law_most"] spSome := ok_some A20.F ⟨o_draw.mono (by decide), A19.F.kp, b19, g19⟩ m_int
    have o_nm : FnOk l.prog w K mg base CX0 2 f21 fd21 ["_law_deck_here", "_law_many"] spNames := ok_names A21.F ⟨o_draw.mono (by decide), A19.F.kp, b19, g19⟩ m_len m_range
    have o_bx : FnOk l.prog w K mg base CX0 3 f22 fd22 ["_law_deck_here", "_law_names_here"] spLBoxes := ok_lboxes A22.F ⟨o_draw.mono (by decide), A19.F.kp, b19, g19⟩ ⟨o_some.mono (by decide), A20.F.kp, b20, g20⟩
    have o_of : FnOk l.prog w K mg base CX0 2 f23 fd23 ["_law_deck_here", "_law_some_here"] (spOneOf K) := ok_oneof A23.F ⟨o_draw.mono (by decide), A19.F.kp, b19, g19⟩ m_len
    have o_pk : FnOk l.prog w K mg base CX0 2 f24 fd24 ["_law_deck_here", "_law_some_here", "_law_many"] (spPicked K) := ok_picked A24.F ⟨o_draw.mono (by decide), A19.F.kp, b19, g19⟩ m_list m_range m_min m_len m_tuple
    have o_lp : FnOk l.prog w K mg base CX0 3 f25 fd25 ["_law_deck_here", "_law_case"] (spLPlain K) := ok_lplain A25.F ⟨o_draw.mono (by decide), A19.F.kp, b19, g19⟩ ⟨o_of.mono (by decide), A23.F.kp, b23, g23⟩ ⟨o_pk.mono (by decide), A24.F.kp, b24, g24⟩ ⟨o_some.mono (by decide), A20.F.kp, b20, g20⟩ m_range
    have o_f0 : FnOk l.prog w K mg base CX0 1 f26 fd26 ["_law_found"] (spFormed K 0) := ok_formed A26.F ⟨ok_never, A26.F.kp, b26, g26⟩ (fun m h => by omega) m_isinstance m_tuple m_str m_int m_bool
    have o_f1 : FnOk l.prog w K mg base CX0 2 f26 fd26 ["_law_found"] (spFormed K 1) := ok_formed A26.F ⟨o_f0.mono (by decide), A26.F.kp, b26, g26⟩ (fun m h => by obtain rfl : m = 0 := (by omega); rfl) m_isinstance m_tuple m_str m_int m_bool
    have o_f2 : FnOk l.prog w K mg base CX0 3 f26 fd26 ["_law_found"] (spFormed K 2) := ok_formed A26.F ⟨o_f1.mono (by decide), A26.F.kp, b26, g26⟩ (fun m h => by obtain rfl : m = 1 := (by omega); rfl) m_isinstance m_tuple m_str m_int m_bool
    have o_f3 : FnOk l.prog w K mg base CX0 4 f26 fd26 ["_law_found"] (spFormed K 3) := ok_formed A26.F ⟨o_f2.mono (by decide), A26.F.kp, b26, g26⟩ (fun m h => by obtain rfl : m = 2 := (by omega); rfl) m_isinstance m_tuple m_str m_int m_bool
    have o_f4 : FnOk l.prog w K mg base CX0 5 f26 fd26 ["_law_found"] (spFormed K 4) := ok_formed A26.F ⟨o_f3.mono (by decide), A26.F.kp, b26, g26⟩ (fun m h => by obtain rfl : m = 3 := (by omega); rfl) m_isinstance m_tuple m_str m_int m_bool
    have o_dn : FnOk l.prog w K mg base CX0 1 f27 fd27 ["_law_things", "_law_word", "_law_number"] (spDone K) := ok_done A27.F m_isinstance m_str m_list m_len m_sorted m_tuple m_set
    have o_due : FnOk l.prog w K mg base CX0 2 f28 fd28 ["_law_row", "_law_numbers", "_law_most"] (spDue K) := ok_due A28.F ⟨o_dn.mono (by decide), A27.F.kp, b27, g27⟩ m_range m_min m_len m_sorted m_tuple
    exact ok_law (k := 7) FL ⟨o_deck.mono (by decide), A18.F.kp, b18, g18⟩ ⟨o_nm.mono (by decide), A21.F.kp, b21, g21⟩ ⟨o_bx.mono (by decide), A22.F.kp, b22, g22⟩ ⟨o_draw.mono (by decide), A19.F.kp, b19, g19⟩ ⟨o_lp.mono (by decide), A25.F.kp, b25, g25⟩ ⟨o_run.mono (by decide), A17.F.kp, b17, g17⟩ ⟨o_f4.mono (by decide), A26.F.kp, b26, g26⟩ ⟨o_due.mono (by decide), A28.F.kp, b28, g28⟩ m_tuple m_range m_len
end K10

open PySem PySem.W PyProof.Rows
set_option maxRecDepth 100000 in
set_option maxHeartbeats 0 in
theorem PySem.Challenge.cw_wipeways_k10_words_one_by_one_holds : PySem.Challenge.rw_wipeways_k10_words_one_by_one.Holds := by
  w_on; o_law; k_head; (case hw => w_witness2)
  k_fill
  refine Kk.walkT (l := PySem.Challenge.rw_wipeways_k10_words_one_by_one) (m := 63) (lev := 8) (x := "_law_script") rfl (by decide) rfl ⟨rfl, by decide, by decide⟩ (fun w h Y => PySem.W.kIn_of Y) ?F
  case F =>
    intro w mg mb mean fa h KX top hmg
    refine' K10.all_mk KX top hmg (K10.atC_mk ?KaCF ?KpgCF ?KhdCF ?KpoCF ?KsaCF ?KmkCF ?KkcCF) ?nCF_place ?nCF_boxes (K10.atC_mk ?KaCR ?KpgCR ?KhdCR ?KpoCR ?KsaCR ?KmkCR ?KkcCR) ?nCR_program ?nCR_answers ?nCR_wanted ?nCR_steps ?nCR_told ?nCR_left ?nCR_ending ?nCR_frames (K10.atM_mk ?Ba0 ?Bi0 ?Bl0 ?Bc0 ?Bk0) (K10.atM_mk ?Ba1 ?Bi1 ?Bl1 ?Bc1 ?Bk1) (K10.atM_mk ?Ba2 ?Bi2 ?Bl2 ?Bc2 ?Bk2) (K10.atM_mk ?Ba3 ?Bi3 ?Bl3 ?Bc3 ?Bk3) (K10.atM_mk ?Ba4 ?Bi4 ?Bl4 ?Bc4 ?Bk4) (K10.atM_mk ?Ba5 ?Bi5 ?Bl5 ?Bc5 ?Bk5) (K10.atM_mk ?Ba6 ?Bi6 ?Bl6 ?Bc6 ?Bk6) (K10.atM_mk ?Ba7 ?Bi7 ?Bl7 ?Bc7 ?Bk7) (K10.at_mk ?b0 ?l_0 ?c_0 ?k_0) (K10.at_mk ?b1 ?l_1 ?c_1 ?k_1) (K10.at_mk ?b2 ?l_2 ?c_2 ?k_2) (K10.at_mk ?b3 ?l_3 ?c_3 ?k_3) (K10.at_mk ?b4 ?l_4 ?c_4 ?k_4) (K10.at_mk ?b5 ?l_5 ?c_5 ?k_5) (K10.at_mk ?b6 ?l_6 ?c_6 ?k_6) (K10.at_mk ?b7 ?l_7 ?c_7 ?k_7) (K10.at_mk ?b8 ?l_8 ?c_8 ?k_8) (K10.at_mk ?b9 ?l_9 ?c_9 ?k_9) (K10.at_mk ?b10 ?l_10 ?c_10 ?k_10) (K10.at_mk ?b11 ?l_11 ?c_11 ?k_11) (K10.at_mk ?b12 ?l_12 ?c_12 ?k_12) (K10.at_mk ?b13 ?l_13 ?c_13 ?k_13) (K10.at_mk ?b14 ?l_14 ?c_14 ?k_14) (K10.at_mk ?b15 ?l_15 ?c_15 ?k_15) (K10.at_mk ?b16 ?l_16 ?c_16 ?k_16) (K10.at_mk ?b17 ?l_17 ?c_17 ?k_17) (K10.at_mk ?b18 ?l_18 ?c_18 ?k_18) (K10.at_mk ?b19 ?l_19 ?c_19 ?k_19) (K10.at_mk ?b20 ?l_20 ?c_20 ?k_20) (K10.at_mk ?b21 ?l_21 ?c_21 ?k_21) (K10.at_mk ?b22 ?l_22 ?c_22 ?k_22) (K10.at_mk ?b23 ?l_23 ?c_23 ?k_23) (K10.at_mk ?b24 ?l_24 ?c_24 ?k_24) (K10.at_mk ?b25 ?l_25 ?c_25 ?k_25) (K10.at_mk ?b26 ?l_26 ?c_26 ?k_26) (K10.at_mk ?b27 ?l_27 ?c_27 ?k_27) (K10.at_mk ?b28 ?l_28 ?c_28 ?k_28) ?aL ?lL ?cL ?kL ?gM ?gX ?gP (K10.tuA_mk ?tlP ?tzP ?tvP) ?gN (K10.tuA_mk ?tlN ?tzN ?tvN) (K10.tuA_mk ?tlE ?tzE ?tvE) ?z0 ?z1 ?z2 ?z3 ?z4 ?z5 ?z6 ?z7 ?z8 ?z9 ?z10 ?z11 ?z12
    (case KaCF => k_is); (case KpgCF => k_is); (case KhdCF => k_is); (case KpoCF => k_is); (case KsaCF => k_is); (case KmkCF => k_is); (case KkcCF => k_is)
    (case nCF_place => k_is); (case nCF_boxes => k_is)
    (case KaCR => k_is); (case KpgCR => k_is); (case KhdCR => k_is); (case KpoCR => k_is); (case KsaCR => k_is); (case KmkCR => k_is); (case KkcCR => k_is)
    (case nCR_program => k_is); (case nCR_answers => k_is); (case nCR_wanted => k_is); (case nCR_steps => k_is); (case nCR_told => k_is); (case nCR_left => k_is); (case nCR_ending => k_is); (case nCR_frames => k_is)
    (case Ba0 => k_is); (case Bi0 => k_is); (case Bl0 => k_is); (case Bc0 => k_is); (case Bk0 => k_is)
    (case Ba1 => k_is); (case Bi1 => k_is); (case Bl1 => k_is); (case Bc1 => k_is); (case Bk1 => k_is)
    (case Ba2 => k_is); (case Bi2 => k_is); (case Bl2 => k_is); (case Bc2 => k_is); (case Bk2 => k_is)
    (case Ba3 => k_is); (case Bi3 => k_is); (case Bl3 => k_is); (case Bc3 => k_is); (case Bk3 => k_is)
    (case Ba4 => k_is); (case Bi4 => k_is); (case Bl4 => k_is); (case Bc4 => k_is); (case Bk4 => k_is)
    (case Ba5 => k_is); (case Bi5 => k_is); (case Bl5 => k_is); (case Bc5 => k_is); (case Bk5 => k_is)
    (case Ba6 => k_is); (case Bi6 => k_is); (case Bl6 => k_is); (case Bc6 => k_is); (case Bk6 => k_is)
    (case Ba7 => k_is); (case Bi7 => k_is); (case Bl7 => k_is); (case Bc7 => k_is); (case Bk7 => k_is)
    (case b0 => k_is); (case l_0 => k_is); (case c_0 => k_is); (case k_0 => k_is)
    (case b1 => k_is); (case l_1 => k_is); (case c_1 => k_is); (case k_1 => k_is)
    (case b2 => k_is); (case l_2 => k_is); (case c_2 => k_is); (case k_2 => k_is)
    (case b3 => k_is); (case l_3 => k_is); (case c_3 => k_is); (case k_3 => k_is)
    (case b4 => k_is); (case l_4 => k_is); (case c_4 => k_is); (case k_4 => k_is)
    (case b5 => k_is); (case l_5 => k_is); (case c_5 => k_is); (case k_5 => k_is)
    (case b6 => k_is); (case l_6 => k_is); (case c_6 => k_is); (case k_6 => k_is)
    (case b7 => k_is); (case l_7 => k_is); (case c_7 => k_is); (case k_7 => k_is)
    (case b8 => k_is); (case l_8 => k_is); (case c_8 => k_is); (case k_8 => k_is)
    (case b9 => k_is); (case l_9 => k_is); (case c_9 => k_is); (case k_9 => k_is)
    (case b10 => k_is); (case l_10 => k_is); (case c_10 => k_is); (case k_10 => k_is)
    (case b11 => k_is); (case l_11 => k_is); (case c_11 => k_is); (case k_11 => k_is)
    (case b12 => k_is); (case l_12 => k_is); (case c_12 => k_is); (case k_12 => k_is)
    (case b13 => k_is); (case l_13 => k_is); (case c_13 => k_is); (case k_13 => k_is)
    (case b14 => k_is); (case l_14 => k_is); (case c_14 => k_is); (case k_14 => k_is)
    (case b15 => k_is); (case l_15 => k_is); (case c_15 => k_is); (case k_15 => k_is)
    (case b16 => k_is); (case l_16 => k_is); (case c_16 => k_is); (case k_16 => k_is)
    (case b17 => k_is); (case l_17 => k_is); (case c_17 => k_is); (case k_17 => k_is)
    (case b18 => k_is); (case l_18 => k_is); (case c_18 => k_is); (case k_18 => k_is)
    (case b19 => k_is); (case l_19 => k_is); (case c_19 => k_is); (case k_19 => k_is)
    (case b20 => k_is); (case l_20 => k_is); (case c_20 => k_is); (case k_20 => k_is)
    (case b21 => k_is); (case l_21 => k_is); (case c_21 => k_is); (case k_21 => k_is)
    (case b22 => k_is); (case l_22 => k_is); (case c_22 => k_is); (case k_22 => k_is)
    (case b23 => k_is); (case l_23 => k_is); (case c_23 => k_is); (case k_23 => k_is)
    (case b24 => k_is); (case l_24 => k_is); (case c_24 => k_is); (case k_24 => k_is)
    (case b25 => k_is); (case l_25 => k_is); (case c_25 => k_is); (case k_25 => k_is)
    (case b26 => k_is); (case l_26 => k_is); (case c_26 => k_is); (case k_26 => k_is)
    (case b27 => k_is); (case l_27 => k_is); (case c_27 => k_is); (case k_27 => k_is)
    (case b28 => k_is); (case l_28 => k_is); (case c_28 => k_is); (case k_28 => k_is)
    (case aL => k_is); (case lL => k_is); (case cL => k_is); (case kL => k_is); (case gM => k_is); (case gX => k_is); (case gP => k_is)
    (case tlP => k_is); (case tzP => decide); (case tvP => exact .cons ⟨_, rfl⟩ (.cons ⟨_, rfl⟩ (.cons ⟨_, rfl⟩ (.cons ⟨_, rfl⟩ (.cons ⟨_, rfl⟩ (.cons ⟨_, rfl⟩ (.nil)))))))
    (case gN => k_is); (case tlN => k_is); (case tzN => decide); (case tvN => exact .cons ⟨_, rfl⟩ (.cons rfl .nil))
    (case tlE => k_is); (case tzE => decide); (case tvE => exact .nil)
    (case z0 => k_is); (case z1 => k_is); (case z2 => k_is); (case z3 => k_is); (case z4 => k_is); (case z5 => k_is); (case z6 => k_is); (case z7 => k_is); (case z8 => k_is); (case z9 => k_is); (case z10 => k_is); (case z11 => k_is); (case z12 => k_is)

